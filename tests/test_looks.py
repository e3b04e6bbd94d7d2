from itertools import product

from drawn import FIELDS, NO_FIELDS, all_columns, all_grids, drawn_column, drawn_grid, drawn_of_rank, lot, plain_rank, plain_sum
from gridwright.columns import Column, dot, unit_column
from gridwright.errors import (
    InvalidKind, InvalidNumber, InvalidPairs, InvalidShape, NotAColumn, NotAField, NotAGrid, NotLooks, NotRests, NotSquare,
    Quarrels, TooMany, Unlike,
)
from gridwright.grids import Grid, is_even, nought_grid
from gridwright.kinds import kind_of
from gridwright.leading import led
from gridwright.looks import (
    Looks, even_fitting, even_sure, fits, fitting, fitting_number, free_numbers, looks_left, quarrel, ranks, sure, sure_places,
)
from gridwright.ratios import Ratio
from gridwright.rests import Rest
from gridwright.spans import in_span
from gridwright.stairs import rank_number
from samples import NO_KINDS
from support import SPOILT, Told
from test_columns import NO_COLUMNS
from test_grids import NO_GRIDS

NO_LOOKS = [*SPOILT, 1, (), "rest 3", Column((1,)), Looks]
NO_SHAPES = [*SPOILT, (1, 2, 3), (0, 1), (1, 9), (1, True), (1, Ratio(1)), [1, 2], 3, (10 ** 40, 1), (-1, 1)]


def seen(grid, columns):
    """Looks at a grid by these columns."""
    return Looks(grid.kind, grid.shape, tuple((x, grid * x) for x in columns))


def drawn_looks(kind, source, shapes=((1, 1), (2, 2), (2, 3), (3, 2), (1, 4), (4, 1), (3, 3))):
    """Looks at drawn grids, some of which depend on one another, and such as quarrel."""
    for height, width in shapes:
        for many in (0, 1, 2, width, width + 1):
            grid = drawn_of_rank(kind, height, width, source.randint(0, min(height, width)), source)
            columns = [drawn_column(kind, width, source) for _ in range(many)]
            if many > 1:
                columns[1] = columns[0] * 2
            yield seen(grid, columns)
            looks = Looks(kind, (height, width), tuple((x, drawn_column(kind, height, source)) for x in columns))
            yield looks


def small_looks(prime, source, shapes=((1, 1), (1, 2), (2, 1), (2, 2))):
    """Looks of which all grids can be gone through."""
    for height, width in shapes:
        for many in (0, 1, 2, 3):
            for _ in range(4):
                pairs = tuple((drawn_column(f"rest {prime}", width, source), drawn_column(f"rest {prime}", height, source)) for _ in range(many))
                yield Looks(f"rest {prime}", (height, width), pairs)
            yield seen(drawn_grid(f"rest {prime}", height, width, source), [drawn_column(f"rest {prime}", width, source) for _ in range(many)])


def all_fitting(looks):
    """All grids that fit looks by a prime."""
    return [grid for grid in all_grids(int(looks.kind[5:]), *looks.shape) if all(grid * x == y for x, y in looks.pairs)]


class Made(Told):
    def test_what_looks_tell(self):
        for kind in FIELDS:
            for looks in drawn_looks(kind, lot(f"made {kind}")):
                for other in (Looks(looks.kind, looks.shape, looks.pairs), Looks(pairs=looks.pairs, shape=looks.shape, kind=looks.kind)):
                    self.same([other.kind, other.shape, other.pairs, bool(other)], [looks.kind, looks.shape, looks.pairs, True])
                    self.same([looks == other, looks != other], [True, False])

    def test_equal_exactly_if_all_three_are(self):
        x, y = led(Column((1, 2)), "ratio"), led(Column((3,)), "ratio")
        told = [Looks("ratio", (1, 2), ()), Looks("ratio", (1, 2), ((x, y),)), Looks("ratio", (1, 2), ((x, y), (x, y))),
                Looks("ratio", (1, 2), ((x * 2, y * 2),)), Looks("ratio", (2, 1), ()), Looks("rest 3", (1, 2), ()), Looks("ratio", (1, 1), ())]
        for k, looks in enumerate(told):
            for at, other in enumerate(told):
                self.same([looks == other, looks != other], [k == at, k != at])

    def test_saw(self):
        for kind in FIELDS:
            source = lot(f"saw {kind}")
            looks = Looks(kind, (2, 3), ())
            pairs = ()
            for _ in range(12):
                x, y = drawn_column(kind, 3, source), drawn_column(kind, 2, source)
                before = looks.pairs
                after = looks.saw(x, y)
                self.same([after == looks.saw(y=y, x=x), looks.pairs == before], [True, True])
                pairs += ((x, y),)
                self.same(after == Looks(kind, (2, 3), pairs), True)
                looks = after
            self.refuses(TooMany(13), looks.saw, x=pairs[0][0], y=pairs[0][1])

    def test_refusals_of_looks(self):
        for value in [*SPOILT, *NO_KINDS]:
            self.refuses(InvalidKind(value), Looks, kind=value, shape=None, pairs=None)
        for kind in NO_FIELDS:
            self.refuses(NotAField(kind), Looks, kind=kind, shape=None, pairs=None)
        for value in NO_SHAPES:
            self.refuses(InvalidShape(value, None), Looks, kind="ratio", shape=value, pairs=None)
        x, y = led(Column((1, 2, 3)), "ratio"), led(Column((1, 2)), "ratio")
        for value in [*[one for one in SPOILT if not isinstance(one, tuple)], 1, x, [(x, y)]]:
            self.refuses(InvalidPairs(None), Looks, kind="ratio", shape=(2, 3), pairs=value)
        for value in [*SPOILT, (x,), (x, y, y), [x, y], (y, x), (x, x), (y, y), (x, Column((1, 2))), (Column((1, 2, 3)), y), (x, None), (None, y)]:
            self.refuses(InvalidPairs(1), Looks, kind="ratio", shape=(2, 3), pairs=((x, y), value, None))
        self.refuses(InvalidPairs(12), Looks, kind="ratio", shape=(2, 3), pairs=((x, y),) * 13)
        self.refuses(InvalidPairs(11), Looks, kind="ratio", shape=(2, 3), pairs=((x, y),) * 11 + (None,) * 3)
        self.same(len(Looks("ratio", (2, 3), ((x, y),) * 12).pairs), 12)

    def test_refusals_of_saw(self):
        looks = Looks("ratio", (2, 3), ())
        x, y = led(Column((1, 2, 3)), "ratio"), led(Column((1, 2)), "ratio")
        for value in NO_COLUMNS:
            self.refuses(NotAColumn(value), looks.saw, x=value, y=None)
            self.refuses(NotAColumn(value), looks.saw, x=Column((1,)), y=value)
        self.refuses(Unlike("ratio", "whole"), looks.saw, x=Column((1,)), y=led(Column((1,)), "rest 3"))
        self.refuses(Unlike("ratio", "rest 3"), looks.saw, x=y, y=led(Column((1,)), "rest 3"))
        self.refuses(InvalidShape((2, 3), (2, 1)), looks.saw, x=y, y=x)
        self.refuses(InvalidShape((2, 3), (3, 1)), looks.saw, x=x, y=x)
        full = Looks("ratio", (2, 3), ((x, y),) * 12)
        self.refuses(InvalidShape((2, 3), (3, 1)), full.saw, x=x, y=x)
        self.refuses(TooMany(13), full.saw, x=x, y=y)


class Quarrelling(Told):
    def one_of_both(self, looks):
        """That a grid that fits is told, or a quarrel, and never both."""
        found, grid = quarrel(looks), fitting(looks)
        self.tells(found, quarrel, looks=looks)
        self.tells(grid, fitting, looks=looks)
        self.same(found is None, grid is not None)
        if grid is not None:
            self.same([grid.kind, grid.shape, all(grid * x == y for x, y in looks.pairs)], [looks.kind, looks.shape, True])
            self.tells(True, fits, looks=looks, grid=grid)
        else:
            self.same([type(found), len(found), {kind_of(number) for number in found} == {looks.kind}], [tuple, len(looks.pairs), True])
            sums = [plain_sum([pair[k] for pair in looks.pairs], found) for k in (0, 1)]
            self.same([bool(one) for one in sums], [False, True])

    def test_over_drawn_looks(self):
        for kind in FIELDS:
            for looks in drawn_looks(kind, lot(f"quarrels {kind}")):
                self.one_of_both(looks)

    def test_exactly_if_no_grid_fits(self):
        for prime in (2, 3):
            for looks in small_looks(prime, lot(f"none fits {prime}")):
                self.one_of_both(looks)
                fitting_ones = all_fitting(looks)
                self.same(quarrel(looks) is None, bool(fitting_ones))
                for grid in list(all_grids(prime, *looks.shape))[::3]:
                    self.tells(any(grid == one for one in fitting_ones), fits, looks=looks, grid=grid)

    def test_fits_of_other_shapes_and_kinds(self):
        looks = Looks("rest 3", (2, 2), ())
        for grid, expected in ((nought_grid("rest 3", 2, 2), True), (nought_grid("rest 3", 2, 3), False), (nought_grid("rest 3", 1, 2), False),
                               (nought_grid("whole", 2, 2), False), (nought_grid("rest 5", 2, 2), False)):
            self.tells(expected, fits, looks=looks, grid=grid)


class SureThings(Told):
    def test_the_same_in_all_that_fit_and_nothing_else(self):
        for prime in (2, 3):
            for looks in small_looks(prime, lot(f"sure {prime}")):
                grids, (height, width) = all_fitting(looks), looks.shape
                if not grids:
                    continue
                places = []
                for column in all_columns(prime, width):
                    found = {(grid * column).text for grid in grids}
                    expected = grids[0] * column if len(found) == 1 else None
                    self.tells(expected, sure, looks=looks, column=column)
                for place in range(width):
                    if len({grid.columns[place].text for grid in grids}) == 1:
                        places.append(place)
                self.tells(tuple(places), sure_places, looks=looks)
                left = width - plain_rank(Grid(tuple(x.entries for x, _ in looks.pairs))) if looks.pairs else width
                self.tells(left, looks_left, looks=looks)
                self.tells(height * left, free_numbers, looks=looks)
                self.same(len(grids), prime ** free_numbers(looks))
                counts = [sum(plain_rank(grid) == k for grid in grids) for k in range(9)]
                for k, many in enumerate(counts):
                    self.tells(many, fitting_number, looks=looks, rank=k)
                present = [k for k, many in enumerate(counts) if many]
                self.tells((present[0], present[-1]), ranks, looks=looks)
                self.same(present, list(range(present[0], present[-1] + 1)))

    def test_over_drawn_looks(self):
        for kind in FIELDS:
            source = lot(f"sure of {kind}")
            for looks in drawn_looks(kind, source):
                grid = fitting(looks)
                if grid is None:
                    continue
                columns = tuple(x for x, _ in looks.pairs)
                for column in (drawn_column(kind, looks.shape[1], source), plain_sum(columns, range(1, len(columns) + 1)) if columns
                               else drawn_column(kind, looks.shape[1], source) * 0):
                    known = in_span(columns, column) is not None if columns else not column
                    self.tells(grid * column if known else None, sure, looks=looks, column=column)
                units = [unit_column(kind, looks.shape[1], k) for k in range(looks.shape[1])]
                self.tells(tuple(k for k, unit in enumerate(units) if sure(looks, unit) is not None), sure_places, looks=looks)

    def test_so_many_looks_more_make_all_sure(self):
        for kind in FIELDS:
            source = lot(f"looks more {kind}")
            grid = drawn_grid(kind, 2, 3, source)
            looks = Looks(kind, (2, 3), ())
            left = 3
            while left:
                self.same(looks_left(looks), left)
                missing = next(k for k in range(3) if k not in sure_places(looks))
                unit = unit_column(kind, 3, missing)
                looks, left = looks.saw(unit, grid * unit), left - 1
            self.same([looks_left(looks), sure_places(looks), fitting(looks)], [0, (0, 1, 2), grid])

    def test_counts_agree_with_ranks_and_all_grids(self):
        for prime, shape in ((2, (3, 4)), (97, (2, 2)), (999983, (8, 8)), (3, (8, 1))):
            looks = Looks(f"rest {prime}", shape, ())
            self.same([ranks(looks), free_numbers(looks)], [(0, min(shape)), shape[0] * shape[1]])
            self.same(sum(fitting_number(looks, k) for k in range(9)), prime ** (shape[0] * shape[1]))
            if prime < 100:
                self.same([fitting_number(looks, k) for k in range(9)], [rank_number(*shape, k, prime) for k in range(9)])
        for prime in (2, 5):
            source = lot(f"counts {prime}")
            for looks in drawn_looks(f"rest {prime}", source):
                if quarrel(looks) is None:
                    counts = [fitting_number(looks, k) for k in range(9)]
                    self.same(sum(counts), prime ** free_numbers(looks))
                    self.same(tuple(k for k in range(9) if counts[k]), tuple(range(ranks(looks)[0], ranks(looks)[1] + 1)))

    def test_the_edges(self):
        one = Looks("rest 5", (1, 1), ((Column((Rest(2, 5),)), Column((Rest(1, 5),))),))
        self.same([sure(one, Column((Rest(1, 5),))).text, looks_left(one), free_numbers(one), ranks(one)], ["column rest 5: 3", 0, 0, (1, 1)])
        self.same([fitting_number(one, k) for k in (0, 1, 2, 8)], [0, 1, 0, 0])
        eight = Looks("rest 2", (8, 8), tuple((unit_column("rest 2", 8, k), unit_column("rest 2", 8, k)) for k in range(8)))
        self.same([ranks(eight), fitting_number(eight, 8), fitting_number(eight, 7), sure_places(eight)], [(8, 8), 1, 0, tuple(range(8))])
        nothing = Looks("ratio", (3, 2), ())
        self.same(sure(nothing, led(Column((0, 0)), "ratio")), led(Column((0, 0, 0)), "ratio"))
        self.same([sure(nothing, led(Column((1, 0)), "ratio")), quarrel(nothing), fitting(nothing)], [None, None, nought_grid("ratio", 3, 2)])
        self.same([sure_places(nothing), ranks(nothing), even_fitting(Looks("ratio", (2, 2), ()))], [(), (0, 2), nought_grid("ratio", 2, 2)])


class EvenOnes(Told):
    def holds(self, looks):
        """That an even grid is told exactly if no quarrel is and all products are the same both ways."""
        found = even_fitting(looks)
        self.tells(found, even_fitting, looks=looks)
        alike = all(dot(x, v) == dot(u, y) for x, y in looks.pairs for u, v in looks.pairs)
        self.same(found is not None, quarrel(looks) is None and alike)
        if found is not None:
            self.same([is_even(found), fits(looks, found), found.kind], [True, True, looks.kind])
        return found

    def test_over_drawn_looks(self):
        squares = ((1, 1), (2, 2), (3, 3), (4, 4))
        for kind in FIELDS:
            source = lot(f"even {kind}")
            for looks in drawn_looks(kind, source, squares):
                self.holds(looks)
            for height, _ in squares:
                for many in (0, 1, 2, height, height + 1):
                    grid = drawn_grid(kind, height, height, source)
                    even = grid + grid.turned
                    columns = tuple(drawn_column(kind, height, source) for _ in range(many))
                    looks = seen(even, columns)
                    self.same(self.holds(looks) is None, False)
                    for _ in range(3):
                        row, column = drawn_column(kind, height, source), drawn_column(kind, height, source)
                        known = any(in_span(columns, one) is not None if columns else not one for one in (row, column))
                        self.tells(dot(row, even * column) if known else None, even_sure, looks=looks, row=row, column=column)

    def test_all_even_grids_gone_through(self):
        for prime, size, step in ((2, 1, 1), (2, 2, 1), (3, 2, 2), (2, 3, 5)):
            evens = [grid for grid in all_grids(prime, size, size) if grid == grid.turned]
            for looks in list(small_looks(prime, lot(f"all even {prime} {size}"), ((size, size),))) + [
                    seen(evens[-1], list(all_columns(prime, size))[1:many]) for many in (1, 2, 3)]:
                self.holds(looks)
                fitting_ones = [grid for grid in evens if all(grid * x == y for x, y in looks.pairs)]
                self.same(even_fitting(looks) is not None, bool(fitting_ones))
                columns = list(all_columns(prime, size))
                for row, column in list(product(columns, columns))[::step]:
                    if not fitting_ones:
                        self.refuses(Quarrels(), even_sure, looks=looks, row=row, column=column)
                        continue
                    found = {dot(row, grid * column).text for grid in fitting_ones}
                    expected = dot(row, fitting_ones[0] * column) if len(found) == 1 else None
                    self.tells(expected, even_sure, looks=looks, row=row, column=column)


class Refusals(Told):
    def six(self):
        x = led(Column((1, 0)), "rest 3")
        return ((sure, {"column": x}), (sure_places, {}), (looks_left, {}), (free_numbers, {}), (ranks, {}), (fitting_number, {"rank": 1}))

    def test_no_looks(self):
        calls = ((quarrel, {}), (fitting, {}), (fits, {"grid": None}), (even_fitting, {}), (even_sure, {"row": None, "column": None}),
                 (sure, {"column": None}), (fitting_number, {"rank": None}), *self.six()[1:5])
        for call, more in calls:
            for value in NO_LOOKS:
                self.refuses(NotLooks(value), call, looks=value, **more)

    def test_none_fits(self):
        x, y = led(Column((1, 0)), "rest 3"), led(Column((1, 0)), "rest 3")
        looks = Looks("rest 3", (2, 2), ((x, y), (x, y * 2)))
        for call, more in self.six():
            self.refuses(Quarrels(), call, looks=looks, **more)
        self.refuses(Quarrels(), even_sure, looks=looks, row=x, column=x)
        self.tells(None, even_fitting, looks=looks)
        uneven = Looks("rest 3", (2, 2), ((x, led(Column((0, 1)), "rest 3")), (led(Column((0, 1)), "rest 3"), x * 0)))
        self.tells(None, even_fitting, looks=uneven)
        self.same(fitting(uneven) is None, False)
        self.refuses(Quarrels(), even_sure, looks=uneven, row=x, column=x)

    def test_columns_and_grids_beside(self):
        looks = Looks("ratio", (2, 3), ((led(Column((0, 0, 0)), "ratio"), led(Column((1, 0)), "ratio")),))
        for value in NO_COLUMNS:
            self.refuses(NotAColumn(value), sure, looks=looks, column=value)
            self.refuses(NotAColumn(value), even_sure, looks=looks, row=value, column=None)
            self.refuses(NotAColumn(value), even_sure, looks=looks, row=Column((1,)), column=value)
        for value in NO_GRIDS:
            self.refuses(NotAGrid(value), fits, looks=looks, grid=value)
        one = led(Column((1,)), "ratio")
        self.refuses(Unlike("ratio", "whole"), sure, looks=looks, column=Column((1,)))
        self.refuses(InvalidShape((2, 3), (1, 1)), sure, looks=looks, column=one)
        self.refuses(Quarrels(), sure, looks=looks, column=led(Column((1, 2, 3)), "ratio"))
        self.refuses(Unlike("ratio", "whole"), even_sure, looks=looks, row=Column((1,)), column=led(Column((1,)), "rest 3"))
        self.refuses(Unlike("ratio", "rest 3"), even_sure, looks=looks, row=one, column=led(Column((1,)), "rest 3"))
        self.refuses(NotSquare((2, 3)), even_sure, looks=looks, row=one, column=one)
        self.refuses(NotSquare((2, 3)), even_fitting, looks=looks)
        square = Looks("ratio", (2, 2), ((led(Column((0, 0)), "ratio"), led(Column((1, 0)), "ratio")),))
        two = led(Column((1, 2)), "ratio")
        self.refuses(InvalidShape((2, 2), (1, 1)), even_sure, looks=square, row=one, column=led(Column((1, 2, 3)), "ratio"))
        self.refuses(InvalidShape((2, 2), (3, 1)), even_sure, looks=square, row=two, column=led(Column((1, 2, 3)), "ratio"))
        self.refuses(Quarrels(), even_sure, looks=square, row=two, column=two)

    def test_ranks_beside(self):
        bad = (led(Column((0, 0, 0)), "ratio"), led(Column((1, 0)), "ratio"))
        for value in [*SPOILT, -1, 9, Ratio(1)]:
            self.refuses(InvalidNumber(value), fitting_number, looks=Looks("ratio", (2, 3), (bad,)), rank=value)
        self.refuses(NotRests("ratio"), fitting_number, looks=Looks("ratio", (2, 3), (bad,)), rank=0)
        by_three = tuple(led(column, "rest 3") for column in bad)
        self.refuses(Quarrels(), fitting_number, looks=Looks("rest 3", (2, 3), (by_three,)), rank=8)
        self.tells(0, fitting_number, looks=Looks("rest 3", (2, 3), ()), rank=8)
