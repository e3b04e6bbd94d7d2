from itertools import combinations, permutations, product

from drawn import (
    KINDS, drawn_column, drawn_grid, drawn_number, drawn_turning, lot, plain_one, plain_product, sign_of,
)
from gridwright.columns import Column
from gridwright.errors import (
    InvalidColumns, InvalidEntries, InvalidIndex, InvalidKind, InvalidNumber, InvalidOrder, InvalidRows, InvalidShape,
    InvalidText, NoInverse, NotAGrid, NotSquare, Unlike,
)
from gridwright.grids import (
    Grid, diagonal_grid, exchange_grid, from_columns, from_rows, is_diagonal, is_even, is_lower, is_upper, nought_grid,
    one_grid, order_sign, trace,
)
from gridwright.kinds import nought, number_of, one
from gridwright.polys import Poly
from gridwright.ratios import Ratio
from gridwright.rests import Rest
from samples import NO_KINDS
from support import SPOILT, Told

SHAPES = ((1, 1), (1, 2), (2, 1), (2, 3), (3, 3), (8, 1), (1, 8), (8, 8))
NO_GRIDS = [*SPOILT, 0, 5, Ratio(1), Poly("whole", (1,)), Column((1,)), ((1,),), Grid, "grid whole: 1"]
NO_SIDES = [*SPOILT, 0, -1, 9, 10 ** 40, Ratio(2)]


class Making(Told):
    def test_ordinary_grids(self):
        source = lot("grids")
        for kind, (height, width) in product(KINDS, SHAPES):
            rows = tuple(tuple(drawn_number(kind, source) for _ in range(width)) for _ in range(height))
            for grid in (Grid(rows), Grid(rows=rows)):
                self.same([grid.rows, grid.kind, grid.shape, len(grid)], [rows, kind, (height, width), height])
                self.same(grid.is_square, height == width)

    def test_whole_numbers_among_others_become_those_to_which_they_lead(self):
        for kind in KINDS:
            number = one(kind)
            for rows in (((number, 2), (3, 4)), ((1, 2), (3, number)), ((1, number), (0, 4))):
                grid = Grid(rows)
                expected = tuple(tuple(number_of(kind, entry) if isinstance(entry, int) else entry for entry in row)
                                 for row in rows)
                self.same([grid.kind, grid.rows], [kind, expected])
        self.same([Grid(((1, 2), (3, 4))).kind, Grid(((1, 2), (3, 4))).rows], ["whole", ((1, 2), (3, 4))])

    def test_what_is_no_tuple_or_empty(self):
        for value in [None, True, 1, "1", [(1,)], [], (), {}, {1: 2}, range(3), Column((1,)), Grid(((1,),)), b"1"]:
            self.refuses(InvalidRows(None), Grid, rows=value)

    def test_the_first_wrong_row(self):
        half, third, poly, row = Ratio(1, 2), Rest(1, 3), Poly("ratio", (1,)), (1, 2)
        told = (
            ((1,), 0), ((None,), 0), (("1",), 0), (([1],), 0), (((),), 0), (((), ()), 0), ((Column((1,)),), 0),
            (((True,),), 0), (((1, None),), 0), (((1, "2"),), 0), (((1,) * 9,), 0), ((row, (1,)), 1), ((row, (1, 2, 3)), 1),
            ((row, row, ()), 2), ((row, None), 1), ((row, [1, 2]), 1), ((row, (1, half), (1, third)), 2),
            (((half, third),), 0), ((row, (half, third)), 1), (((half, 1), (1, 1), (2, third)), 2),
            (((poly, 1), (1, half)), 1), (((Rest(1, 3), 1), (1, Rest(1, 9))), 1), ((row,) * 9, 8), ((row,) * 12, 8),
            ((row,) * 8 + (None,), 8), ((row,) * 7 + (None, row), 7), ((row,) * 8 + ((half, third),), 8),
            (((poly, 1), (Poly("whole", (1,)), 1)), 1), (((1, (1,)),), 0), ((row, (1, True)), 1),
        )
        for rows, index in told:
            self.refuses(InvalidRows(index), Grid, rows=rows)

    def test_eight_rows_of_eight_are_not_too_many(self):
        self.same(Grid(((1,) * 8,) * 8).shape, (8, 8))


class Parts(Told):
    def test_entries_rows_and_columns(self):
        source = lot("parts")
        for kind, (height, width) in product(KINDS, SHAPES):
            grid = drawn_grid(kind, height, width, source)
            for i, j in product(range(height), range(width)):
                self.same(grid[i, j], grid.rows[i][j])
                self.same(grid.columns[j].entry(i), grid.rows[i][j])
                self.same(grid.turned[j, i], grid.rows[i][j])
            self.same([grid.turned.shape, len(grid.columns)], [(width, height), width])
            self.same([grid.turned.turned, from_columns(grid.columns)], [grid, grid])
            for i in range(height):
                self.tells(Column(grid.rows[i]), grid.row, index=i)
            self.assertIs(type(grid.columns), tuple)

    def test_what_is_no_pair_of_indexes(self):
        grid = Grid(((1, 2, 3), (4, 5, 6)))
        wrong = [*SPOILT, 0, 1, (0, 3), (2, 0), (-1, 0), (0, -1), (0,), (0, 0, 0), [0, 0], (0, None), (None, 0), (True, 0),
                 (0, False), ("0", 0), ((0, 0), 0), (0, (0,)), 10 ** 30, (10 ** 30, 0), (0, 10 ** 30), (Ratio(0), 0)]
        for value in wrong:
            self.raises(InvalidIndex(value), lambda: grid[value])
        self.raises(InvalidIndex(slice(0, 1)), lambda: grid[0:1])
        self.same([grid[1, 2], grid[(1, 0)]], [6, 4])

    def test_what_is_no_index_of_a_row(self):
        for value in [*SPOILT, -1, 2, 3, 10 ** 30, Ratio(0), (0,)]:
            self.refuses(InvalidIndex(value), Grid(((1, 2, 3), (4, 5, 6))).row, index=value)


class Equality(Told):
    def test_kind_and_rows(self):
        source = lot("equal grids")
        values = [drawn_grid(kind, height, width, source) for kind in KINDS for height, width in ((1, 1), (1, 2), (2, 1))]
        values += [nought_grid(kind, 1, 2) for kind in KINDS]
        for a, b in product(values, values):
            alike = a.kind == b.kind and a.rows == b.rows
            self.same([a == b, a != b], [alike, not alike])
        self.same(Grid(((1, 2),)) == Grid(((2, 1),)), False)
        self.same(Grid(((1, 2), (3, 4))) == Grid(((1, 2, 3, 4),)), False)

    def test_truth(self):
        for kind, (height, width) in product(KINDS, SHAPES):
            self.same(bool(nought_grid(kind, height, width)), False)
            for i, j in product(range(height), range(width)):
                rows = [[nought(kind)] * width for _ in range(height)]
                rows[i][j] = one(kind)
                self.same(bool(Grid(tuple(map(tuple, rows)))), True)


class Signs(Told):
    def test_sums_and_differences_entry_by_entry(self):
        source = lot("grid sums")
        for kind, (height, width) in product(KINDS, SHAPES):
            a, b = drawn_grid(kind, height, width, source), drawn_grid(kind, height, width, source)
            for found, sign in ((a + b, 1), (a - b, -1)):
                for i, j in product(range(height), range(width)):
                    self.same(found[i, j], a[i, j] + b[i, j] * sign)
            self.same([-a, (a - a).kind, bool(a - a)], [a * -1, a.kind, False])

    def test_products_of_grids(self):
        source = lot("grid products")
        for kind, (a, b, c) in product(KINDS, ((1, 1, 1), (1, 3, 1), (3, 1, 2), (2, 3, 2), (8, 8, 8), (8, 1, 8), (1, 8, 2))):
            left, right = drawn_grid(kind, a, b, source), drawn_grid(kind, b, c, source)
            found = left * right
            self.same([found, found.shape, found.kind], [plain_product(left, right), (a, c), kind])

    def test_products_with_columns(self):
        source = lot("column products")
        for kind, (height, width) in product(KINDS, SHAPES):
            grid, column = drawn_grid(kind, height, width, source), drawn_column(kind, width, source)
            found = grid * column
            self.same([found, len(found)], [plain_product(grid, from_columns((column,))).columns[0], height])

    def test_products_with_numbers_on_either_side(self):
        source = lot("grid times")
        for kind, (height, width) in product(KINDS, SHAPES):
            grid = drawn_grid(kind, height, width, source)
            for number in (drawn_number(kind, source), nought(kind), 0, 1, -1, 12):
                expected = Grid(tuple(tuple(entry * number for entry in row) for row in grid.rows))
                self.same([grid * number, number * grid], [expected, expected])

    def test_brackets_sums_and_the_one_grid(self):
        source = lot("laws")
        for kind in KINDS:
            a, b, d = (drawn_grid(kind, *shape, source) for shape in ((2, 3), (3, 2), (3, 2)))
            c, column = drawn_grid(kind, 2, 4, source), drawn_column(kind, 2, source)
            self.same([a * b * c, a * b * column], [a * (b * c), a * (b * column)])
            self.same([a * (b + d), (b + d) * a], [a * b + a * d, b * a + d * a])
            self.same([one_grid(kind, 2) * a, a * one_grid(kind, 3), one_grid(kind, 2) * column], [a, a, column])
            self.same((a * b).turned, b.turned * a.turned)

    def test_unlike_kinds_come_ahead_of_shapes(self):
        for a, b in permutations(KINDS, 2):
            left = nought_grid(a, 2, 3)
            for other in (nought_grid(b, 2, 3), nought_grid(b, 3, 2), nought_grid(b, 1, 1)):
                for action in (lambda: left + other, lambda: left - other, lambda: left * other):
                    self.raises(Unlike(a, b), action)
            for size in (1, 2, 3):
                column = Column((nought(b),) * size)
                self.raises(Unlike(a, b), lambda: left * column)

    def test_shapes_that_do_not_fit(self):
        for a, b in product(SHAPES, SHAPES):
            left, right = nought_grid("ratio", *a), nought_grid("ratio", *b)
            if a != b:
                self.raises(InvalidShape(a, b), lambda: left + right)
                self.raises(InvalidShape(a, b), lambda: left - right)
            if a[1] != b[0]:
                self.raises(InvalidShape(a, b), lambda: left * right)
                column = Column((Ratio(1),) * b[0])
                self.raises(InvalidShape(a, (b[0], 1)), lambda: left * column)

    def test_nothing_that_is_given_is_changed(self):
        grid, column = Grid(((1, 2), (3, 5))), Column((1, 2))
        for _ in (grid + grid, grid * grid, grid * column, grid ** 3, grid ** -2, -grid, grid.turned, grid.columns, grid.text):
            self.same([grid.rows, column.entries], [((1, 2), (3, 5)), (1, 2)])


class Powers(Told):
    def test_products_with_itself(self):
        source = lot("powers")
        for kind, size in product(KINDS, (1, 2, 3)):
            grid = drawn_grid(kind, size, size, source)
            expected = plain_one(kind, size)
            for exponent in range(6):
                self.same(grid ** exponent, expected)
                self.tells(expected, grid.power, exponent=exponent)
                expected = plain_product(expected, grid)

    def test_below_nought_the_inverse_is_raised(self):
        source = lot("inverse powers")
        for kind, size in product(KINDS, (1, 2, 3)):
            grid = drawn_turning(kind, size, source)
            inverse = grid ** -1
            self.same([grid * inverse, inverse * grid], [plain_one(kind, size)] * 2)
            for exponent in range(1, 4):
                self.same([grid ** -exponent, grid.power(-exponent)], [inverse ** exponent] * 2)
            self.same((grid ** 2 * grid ** -2).kind, kind)

    def test_the_ends_of_the_exponents(self):
        for kind in KINDS:
            grid = Grid(((one(kind), 1), (0, 1)))
            self.same(grid ** 64, Grid(((one(kind), 64), (0, 1))))
            self.same(grid ** -64, Grid(((one(kind), -64), (0, 1))))
            if not kind.startswith("rest "):
                for value in (65, -65, 10 ** 30, -(10 ** 30)):
                    self.refuses(InvalidNumber(value), grid.power, exponent=value)
                    self.raises(InvalidNumber(value), lambda: grid ** value)

    def test_great_exponents_of_rests(self):
        for kind in ("rest 2", "rest 3", "rest 97", "rest 999983", "rest 4", "rest 6", "rest 1000000"):
            grid = Grid(((one(kind), 1), (0, 1)))
            for exponent in (65, -65, 10 ** 30, -(10 ** 30), 10 ** 30 - 1, 1 - 10 ** 30, 123456789123456789):
                self.same(grid ** exponent, Grid(((one(kind), exponent), (0, 1))))
                self.tells(Grid(((one(kind), exponent), (0, 1))), grid.power, exponent=exponent)
            for value in (10 ** 30 + 1, -(10 ** 30) - 1, 10 ** 59):
                self.refuses(InvalidNumber(value), grid.power, exponent=value)
                self.raises(InvalidNumber(value), lambda: grid ** value)
        # By P each turning grid of size 2 to the power of the number of all such grids is the one grid.
        turning = Grid(((Rest(1, 5), 2), (3, 2)))
        self.same([turning ** (480 * 10 ** 20), turning ** (480 * 10 ** 20 + 1)], [one_grid("rest 5", 2), turning])
        self.same(turning ** -(480 * 10 ** 20 + 1), turning ** 479)

    def test_eight_rows(self):
        source = lot("eight rows")
        for kind in ("whole", "ratio", "rest 6", "rest 999983", "poly rest 3"):
            grid = drawn_turning(kind, 8, source)
            self.same([grid ** -1 * grid, grid ** 3], [one_grid(kind, 8), grid * grid * grid])

    def test_what_is_no_exponent_comes_ahead_of_the_shape(self):
        for kind in KINDS:
            for grid in (one_grid(kind, 2), nought_grid(kind, 2, 3), nought_grid(kind, 2, 2)):
                for value in [*SPOILT, Ratio(1), Rest(1, 2), 10 ** 31, grid]:
                    self.refuses(InvalidNumber(value), grid.power, exponent=value)
                self.raises(InvalidNumber("1"), lambda: grid ** "1")
            for exponent in (0, 1, 2, -1, 64, -64):
                for shape in ((1, 2), (2, 1), (2, 3), (8, 7)):
                    grid = nought_grid(kind, *shape)
                    self.refuses(NotSquare(shape), grid.power, exponent=exponent)
                    self.raises(NotSquare(shape), lambda: grid ** exponent)

    def test_grids_without_an_inverse(self):
        grids = [nought_grid(kind, size, size) for kind in KINDS for size in (1, 2, 8)]
        grids += [Grid(((2, 0), (0, 1))), Grid(((1, 2), (2, 4))), Grid(((Ratio(1), 2), (2, 4))), Grid(((Rest(2, 6), 0), (0, 1))),
                  Grid(((Rest(2, 4),),)), Grid(((Poly("ratio", (0, 1)), 0), (0, 1))), Grid(((Poly("whole", (2,)),),))]
        for grid in grids:
            for exponent in (-1, -2, -64):
                self.refuses(NoInverse(), grid.power, exponent=exponent)
                self.raises(NoInverse(), lambda: grid ** exponent)
            self.same([grid ** 0, grid ** 1], [one_grid(grid.kind, len(grid)), grid])


class Special(Told):
    def test_one_grids_and_nought_grids(self):
        for kind, size in product(KINDS, range(1, 9)):
            self.tells(plain_one(kind, size), one_grid, kind=kind, size=size)
            for width in (1, size, 8):
                grid = nought_grid(kind, size, width)
                self.same([grid.kind, grid.shape, bool(grid)], [kind, (size, width), False])
                self.tells(Grid(((nought(kind),) * width,) * size), nought_grid, kind=kind, height=size, width=width)

    def test_their_errors_in_order(self):
        for value in [*NO_KINDS, *SPOILT]:
            self.refuses(InvalidKind(value), one_grid, kind=value, size=0)
            self.refuses(InvalidKind(value), nought_grid, kind=value, height=2, width=2)
            self.refuses(InvalidKind(value), nought_grid, kind=value, height=None, width=9)
            self.refuses(InvalidKind(value), diagonal_grid, kind=value, entries=(1,))
            self.refuses(InvalidKind(value), diagonal_grid, kind=value, entries=[])
        for value in NO_SIDES:
            self.refuses(InvalidNumber(value), one_grid, kind="rest 4", size=value)
            self.refuses(InvalidNumber(value), nought_grid, kind="ratio", height=value, width=1)
            self.refuses(InvalidNumber(value), nought_grid, kind="ratio", height=value, width=-5)
            self.refuses(InvalidNumber(value), nought_grid, kind="ratio", height=8, width=value)

    def test_diagonal_grids(self):
        source = lot("diagonal")
        for kind, size in product(KINDS, (1, 2, 3, 8)):
            entries = tuple(drawn_number(kind, source) for _ in range(size))
            rows = [[number_of(kind, 0)] * size for _ in range(size)]
            for k, entry in enumerate(entries):
                rows[k][k] = entry + nought(kind)
            self.tells(Grid(tuple(map(tuple, rows))), diagonal_grid, kind=kind, entries=entries)
            self.same(diagonal_grid(kind, (2,) * size), plain_one(kind, size) * 2)
        self.same(diagonal_grid("poly ratio", (0, 1)).kind, "poly ratio")

    def test_entries_that_are_wrong(self):
        half = Ratio(1, 2)
        told = (([1], None), ((), None), (None, None), (5, None), ("12", None), ((None,), 0), ((1, True), 1), ((1, half), 1),
                ((Rest(1, 5), Rest(1, 10)), 1), ((1,) * 9, 8), ((1,) * 8 + (None, None), 8), ((1, 2, "3", half), 2),
                ((Column((1,)),), 0))
        for entries, index in told:
            self.refuses(InvalidEntries(index), diagonal_grid, kind="rest 5", entries=entries)
        self.refuses(InvalidEntries(1), diagonal_grid, kind="whole", entries=(1, half))
        self.refuses(InvalidEntries(0), diagonal_grid, kind="poly ratio", entries=(half,))

    def test_from_columns_and_from_rows(self):
        source = lot("from columns")
        for kind, (many, size) in product(KINDS, SHAPES):
            columns = tuple(drawn_column(kind, size, source) for _ in range(many))
            found = from_columns(columns)
            self.same([found.kind, found.shape, found.columns], [kind, (size, many), columns])
            self.tells(found, from_columns, columns=columns)
            self.tells(found.turned, from_rows, columns=columns)

    def test_columns_that_are_wrong(self):
        a, b, short, other = Column((1, 2)), Column((Ratio(1), 2)), Column((1,)), Grid(((1, 2),))
        told = ((None, None), ((), None), ([a], None), (a, None), ("ab", None), ((None,), 0), ((other,), 0), (((1, 2),), 0),
                ((a, b), 1), ((a, short), 1), ((a, a, None), 2), ((a, None, b), 1), ((a,) * 9, 8), ((a,) * 30, 8),
                ((a,) * 8 + (None,), 8), ((a,) * 9 + (None,), 8), ((a,) * 5 + (b,) * 4, 5), ((a,) * 7 + (short, a), 7))
        for columns, index in told:
            self.refuses(InvalidColumns(index), from_columns, columns=columns)
            self.refuses(InvalidColumns(index), from_rows, columns=columns)


class Orders(Told):
    def test_exchange_grids_put_rows_in_order(self):
        source = lot("orders")
        for size in range(1, 5):
            for order in permutations(range(size)):
                grid = exchange_grid(order)
                self.tells(grid, exchange_grid, order=order)
                self.same(grid.kind, "whole")
                for i, j in product(range(size), range(size)):
                    self.same(grid[i, j], int(order[i] == j))
                other = drawn_grid("whole", size, 3, source)
                self.same((grid * other).rows, tuple(other.rows[k] for k in order))
                self.same([grid.turned * grid, grid ** -1], [one_grid("whole", size), grid.turned])

    def test_their_products_are_exchange_grids(self):
        for first, second in product(permutations(range(3)), repeat=2):
            both = tuple(second[k] for k in first)
            self.same(exchange_grid(first) * exchange_grid(second), exchange_grid(both))
            self.same(order_sign(both), order_sign(first) * order_sign(second))

    def test_signs(self):
        for size in range(1, 6):
            for order in permutations(range(size)):
                self.tells(sign_of(order), order_sign, order=order)
        self.same([order_sign((7, 6, 5, 4, 3, 2, 1, 0)), order_sign((1, 2, 3, 4, 5, 6, 7, 0))], [1, -1])
        self.same(exchange_grid((7, 6, 5, 4, 3, 2, 1, 0))[0, 7], 1)

    def test_what_is_no_order(self):
        wrong = [*SPOILT, 0, [0], [1, 0], (1,), (0, 0), (0, 2), (1, 2), (0, 1, 1), (-1, 0), (0, -1), (True, False), (0, True),
                 (False,), (0, "1"), (0, None), ((0,),), tuple(range(9)), tuple(range(20)), (Ratio(0),), "01", (0, 10 ** 40)]
        for value in wrong:
            self.refuses(InvalidOrder(value), exchange_grid, order=value)
            self.refuses(InvalidOrder(value), order_sign, order=value)


class Telling(Told):
    def test_traces(self):
        source = lot("traces")
        for kind, size in product(KINDS, (1, 2, 3, 8)):
            grid = drawn_grid(kind, size, size, source)
            total = nought(kind)
            for k in range(size):
                total = total + grid.rows[k][k]
            self.tells(total, trace, grid=grid)
            self.tells(nought(kind), trace, grid=nought_grid(kind, size, size))

    def test_a_product_has_one_trace_either_way_round(self):
        source = lot("traces of products")
        for kind, (a, b) in product(KINDS, ((1, 3), (2, 2), (2, 3), (8, 1))):
            left, right = drawn_grid(kind, a, b, source), drawn_grid(kind, b, a, source)
            self.same(trace(left * right), trace(right * left))

    def test_what_is_upper_lower_and_diagonal(self):
        for kind, (height, width) in product(KINDS, ((1, 1), (2, 2), (2, 3), (3, 2), (1, 8), (8, 1), (8, 8))):
            empty = nought_grid(kind, height, width)
            for call in (is_upper, is_lower, is_diagonal):
                self.tells(True, call, grid=empty)
            for i, j in product(range(height), range(width)):
                rows = [list(row) for row in empty.rows]
                rows[i][j] = number_of(kind, -1)
                grid = Grid(tuple(map(tuple, rows)))
                self.tells(i <= j, is_upper, grid=grid)
                self.tells(i >= j, is_lower, grid=grid)
                self.tells(i == j, is_diagonal, grid=grid)

    def test_what_is_even(self):
        source = lot("even")
        for kind, size in product(KINDS, (1, 2, 3, 8)):
            grid = drawn_grid(kind, size, size, source)
            self.tells(True, is_even, grid=grid + grid.turned)
            for i, j in combinations(range(size), 2):
                rows = [list(row) for row in (grid + grid.turned).rows]
                rows[i][j] = rows[i][j] + 1
                self.tells(False, is_even, grid=Grid(tuple(map(tuple, rows))))
            self.tells(False, is_even, grid=nought_grid(kind, size, size % 8 + 1))

    def test_errors(self):
        for call in (trace, is_upper, is_lower, is_diagonal, is_even):
            for value in NO_GRIDS:
                self.refuses(NotAGrid(value), call, grid=value)
        for kind, shape in product(KINDS, ((1, 2), (2, 1), (7, 8))):
            self.refuses(NotSquare(shape), trace, grid=nought_grid(kind, *shape))


class Reading(Told):
    def test_texts_of_grids(self):
        told = {
            "grid whole: 0": Grid(((0,),)), "grid whole: 1 -2; 3 40": Grid(((1, -2), (3, 40))),
            "grid ratio: 1/2 2/1": Grid(((Ratio(1, 2), 2),)), "grid ratio: 0/1; -1/3": Grid(((0,), (Ratio(-1, 3),))),
            "grid rest 4: 3 0; 1 2": Grid(((Rest(3, 4), 0), (1, 2))),
            "grid poly whole: () (0,1); (1) (-2)": Grid(((0, Poly("whole", (0, 1))), (1, -2))),
            "grid poly rest 3: (1,2)": Grid(((Poly("rest 3", (1, 2)),),)),
            "grid whole: 1; 2; 3; 4; 5; 6; 7; 8": Grid(tuple((k,) for k in range(1, 9))),
        }
        for text, grid in told.items():
            self.same(grid.text, text)
            self.tells(grid, Grid.read, text=text)

    def test_what_is_no_text_of_a_grid(self):
        texts = [
            "grid", "grid ", "grid whole", "grid whole:", "grid whole: ", "grid whole: ;", "grid whole: 1;", "grid whole: 1; ",
            "grid whole: ; 1", "grid whole: 1;2", "grid whole: 1 ; 2", "grid whole: 1;  2", "grid whole: 1 2; 3",
            "grid whole: 1; 2 3", "grid whole: 1 2 3 4 5 6 7 8 9", "grid whole: 1; 2; 3; 4; 5; 6; 7; 8; 9", "grid whole: 01",
            "grid ratio: 1 2", "grid ratio: 2/2", "grid rest 5: 5", "grid rest 5: -1", "grid rest 1: 0", "grid rest 1000001: 0",
            "grid poly rest 4: ()", "grid poly whole: (0)", "grid poly whole: (1, 2)", "column whole: 1", "grid whole:1",
            "grid  whole: 1", " grid whole: 1", "grid whole: 1 ", "grid whole: 1,2; 3,4", "Grid whole: 1", "grid : 1",
            "grid whole: 1; 2\n", "grid ratio: 1/2; 1", "grid whole: 1. 2",
        ]
        for value in [*SPOILT, *texts, 5, Grid(((1,),)), ("grid whole: 1",)]:
            self.refuses(InvalidText(value), Grid.read, text=value)
