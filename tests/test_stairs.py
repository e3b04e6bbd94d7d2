from itertools import combinations, product

from drawn import (
    FIELDS, NO_FIELDS, all_columns, all_grids, drawn_grid, drawn_number, drawn_of_rank, drawn_turning, lot, plain_rank,
    span_of, stands_in_stairs,
)
from gridwright.blocks import beside
from gridwright.columns import Column
from gridwright.errors import (
    InvalidIndex, InvalidNumber, InvalidShape, NotAField, NotAGrid, Nought, Unlike,
)
from gridwright.grids import Grid, from_rows, nought_grid, one_grid
from gridwright.kinds import nought, one
from gridwright.ratios import Ratio
from gridwright.rests import Rest
from gridwright.sides import is_turning
from gridwright.stairs import (
    both_turnings, free_places, rank, rank_number, rank_parts, row_turning, span_at, span_number, stair_form,
    stair_turning, step_places,
)
from support import SPOILT, Told
from test_grids import NO_GRIDS

SHAPES = ((1, 1), (1, 4), (3, 1), (2, 3), (3, 3), (4, 3), (5, 8))
NO_PRIMES = [*SPOILT, 0, 1, -2, 4, 9, 91, 100, 101, 10 ** 40, Ratio(2), Rest(2, 3), "rest 2"]


def pivots_of(grid):
    """The places of the first numbers that are not nought."""
    filled = [[place for place, number in enumerate(row) if number] for row in grid.rows]
    return tuple(places[0] for places in filled if places)


def by_all_ranks(kind, name):
    """Grids of all ranks and of several shapes."""
    source = lot(name)
    for height, width in SHAPES:
        for wanted in range(min(height, width) + 1):
            yield drawn_of_rank(kind, height, width, wanted, source), wanted
    yield drawn_of_rank(kind, 8, 8, 8, source), 8
    yield drawn_of_rank(kind, 8, 8, 5, source), 5
    yield nought_grid(kind, 8, 8), 0


class StairForms(Told):
    def test_they_stand_in_stairs_and_the_turning_grid_leads_there(self):
        for kind in FIELDS:
            for grid, wanted in by_all_ranks(kind, "stairs"):
                form, turning = stair_form(grid), stair_turning(grid)
                self.tells(form, stair_form, grid=grid)
                self.same([form.shape, form.kind, stands_in_stairs(form)], [grid.shape, kind, True])
                self.tells(turning, stair_turning, grid=grid)
                self.same([turning.shape, turning.kind], [(len(grid), len(grid)), kind])
                self.same([is_turning(turning), turning * grid], [True, form])
                pivots = pivots_of(form)
                self.tells(pivots, step_places, grid=grid)
                self.tells(tuple(k for k in range(grid.shape[1]) if k not in pivots), free_places, grid=grid)
                self.tells(wanted, rank, grid=grid)
                self.same(stair_form(form), form)

    def test_the_turning_grid_is_the_one_of_the_definition(self):
        for kind in FIELDS:
            for grid, _ in by_all_ranks(kind, "turning"):
                height, width = grid.shape
                if height + width <= 8:
                    both = stair_form(beside(grid, one_grid(kind, height)))
                    self.same(stair_turning(grid).rows, tuple(row[width:] for row in both.rows))
        self.same(stair_turning(nought_grid("ratio", 8, 8)), one_grid("ratio", 8))
        # The rows behind the rank stand in stairs themselves, and their pivots clear those above.
        source = lot("behind the rank")
        for kind in FIELDS:
            grid = drawn_of_rank(kind, 8, 6, 4, source)
            behind = Grid(stair_turning(grid).rows[4:])
            self.same(stands_in_stairs(behind), True)
            for row in stair_turning(grid).rows[:4]:
                self.same([row[place] for place in pivots_of(behind)], [nought(kind)] * 4)

    def test_the_rank_is_that_of_minors_and_of_the_grid_turned_over(self):
        source = lot("ranks of minors")
        for kind, shape in product(FIELDS, ((1, 3), (2, 2), (3, 3), (4, 3))):
            for _ in range(3):
                grid = drawn_grid(kind, *shape, source)
                self.same([rank(grid), rank(grid.turned)], [plain_rank(grid)] * 2)

    def test_grids_led_into_one_another_have_one_form(self):
        source = lot("one form")
        for kind in FIELDS:
            for grid, _ in by_all_ranks(kind, "forms"):
                other = drawn_turning(kind, len(grid), source) * grid
                self.same(stair_form(other), stair_form(grid))

    def test_single_steps(self):
        source = lot("single steps")
        for kind in FIELDS:
            grid, form = drawn_grid(kind, 4, 5, source), None
            form = stair_form(grid)
            for i, j in combinations(range(4), 2):
                rows = list(grid.rows)
                rows[i], rows[j] = rows[j], rows[i]
                self.same(stair_form(Grid(tuple(rows))), form)
                number = drawn_number(kind, source)
                rows[i] = tuple(a + number * b for a, b in zip(rows[i], rows[j]))
                self.same(stair_form(Grid(tuple(rows))), form)
                rows[j] = tuple(a * (number if number else -one(kind)) for a in rows[j])
                self.same(stair_form(Grid(tuple(rows))), form)

    def test_all_small_grids_fall_into_classes_by_their_forms(self):
        for prime, height, width in ((2, 2, 3), (3, 2, 2), (2, 3, 2)):
            turnings = [grid for grid in all_grids(prime, height, height) if is_turning(grid)]
            for grid in all_grids(prime, height, width):
                led = {(turning * grid).text for turning in turnings}
                self.assertIn(stair_form(grid).text, led)
                self.same(sum(stands_in_stairs(Grid.read(text)) for text in led), 1)


class Parts(Told):
    def test_rank_parts(self):
        for kind in FIELDS:
            for grid, wanted in by_all_ranks(kind, "parts"):
                if wanted == 0:
                    self.refuses(Nought(), rank_parts, grid=grid)
                    continue
                columns, rows = rank_parts(grid)
                self.tells((columns, rows), rank_parts, grid=grid)
                self.same([columns.shape, rows.shape], [(len(grid), wanted), (wanted, grid.shape[1])])
                self.same([columns * rows, columns.kind], [grid, kind])
                self.same(columns.columns, tuple(grid.columns[place] for place in step_places(grid)))
                self.same(rows.rows, stair_form(grid).rows[:wanted])

    def test_both_turnings(self):
        for kind in FIELDS:
            for grid, wanted in by_all_ranks(kind, "both turnings"):
                for found in (both_turnings(grid), both_turnings(grid=grid)):
                    self.assertIs(type(found), tuple)
                    left, right = found
                    self.same([left.shape, right.shape], [(len(grid),) * 2, (grid.shape[1],) * 2])
                    self.same([is_turning(left), is_turning(right), left.kind, right.kind], [True, True, kind, kind])
                    led = left * grid * right
                    for i, j in product(range(led.shape[0]), range(led.shape[1])):
                        self.same(led[i, j], one(kind) if i == j < wanted else nought(kind))

    def test_row_turnings(self):
        source = lot("row turnings")
        for kind in FIELDS:
            for grid, wanted in by_all_ranks(kind, "turnings of rows"):
                other = drawn_turning(kind, len(grid), source) * grid
                for found in (row_turning(grid, other), row_turning(grid=grid, other=other)):
                    self.same([found * grid, is_turning(found), found.kind], [other, True, kind])
                if wanted > 0:
                    self.tells(None, row_turning, grid=grid, other=nought_grid(kind, *grid.shape))
                    self.tells(None, row_turning, grid=nought_grid(kind, *grid.shape), other=grid)

    def test_row_turnings_of_all_small_grids(self):
        turnings = [grid for grid in all_grids(2, 2, 2) if is_turning(grid)]
        for grid, other in product(all_grids(2, 2, 2), repeat=2):
            found = row_turning(grid, other)
            self.same(found is None, not any(turning * grid == other for turning in turnings))
            if found is not None:
                self.same([found * grid, is_turning(found)], [other, True])

    def test_equal_ranks_and_no_equal_forms(self):
        self.tells(None, row_turning, grid=Grid(((Ratio(1), 0),)), other=Grid(((Ratio(0), 1),)))


class Numbers(Told):
    def test_ranks_counted(self):
        for prime, height, width in ((2, 1, 1), (2, 2, 2), (2, 2, 3), (2, 3, 2), (3, 2, 2), (5, 1, 2), (2, 3, 3)):
            counted = {}
            for grid in all_grids(prime, height, width):
                counted[rank(grid)] = counted.get(rank(grid), 0) + 1
            for wanted in range(9):
                self.tells(counted.get(wanted, 0), rank_number, height=height, width=width, rank=wanted, prime=prime)

    def test_all_ranks_together(self):
        for prime, height, width in product((2, 3, 97), (1, 5, 8), (1, 4, 8)):
            total = sum(rank_number(height, width, wanted, prime) for wanted in range(9))
            self.same(total, prime ** (height * width))
        self.same(rank_number(8, 8, 0, 97), 1)

    def test_spans_counted(self):
        for prime, size in ((2, 1), (2, 2), (2, 3), (3, 2), (5, 2)):
            columns = list(all_columns(prime, size))
            spans = {}
            for many in range(size + 1):
                for chosen in combinations(columns, many):
                    spans[frozenset(span_of(chosen, prime)) if chosen else frozenset()] = True
            counted = {0: 1}
            for span in spans:
                dimension = next((k for k in range(1, 9) if prime ** k == len(span)), None)
                if dimension is not None:
                    counted[dimension] = counted.get(dimension, 0) + 1
            for dimension in range(9):
                self.tells(counted.get(dimension, 0), span_number, size=size, dimension=dimension, prime=prime)

    def test_spans_of_greater_sizes(self):
        self.same([span_number(8, 0, 97), span_number(8, 8, 2), span_number(8, 1, 2), span_number(7, 8, 2)], [1, 1, 255, 0])
        for prime, size in product((2, 3, 97), range(1, 9)):
            for dimension in range(size + 1):
                self.same(span_number(size, dimension, prime), span_number(size, size - dimension, prime))

    def test_each_span_by_its_index(self):
        for prime, size in ((2, 1), (2, 2), (2, 3), (2, 4), (3, 2), (3, 3), (5, 2)):
            for dimension in range(1, size + 1):
                keys, many = [], span_number(size, dimension, prime)
                for index in range(many):
                    base = span_at(size, dimension, prime, index)
                    self.assertIs(type(base), tuple)
                    grid = from_rows(base)
                    self.same([grid.shape, grid.kind, stands_in_stairs(grid)], [(dimension, size), f"rest {prime}", True])
                    self.same(rank(grid), dimension)
                    keys.append((pivots_of(grid), [[entry.number for entry in row] for row in grid.rows]))
                self.same(keys, sorted(keys))
                self.same(len({str(key) for key in keys}), many)

    def test_the_first_and_the_last_span(self):
        for prime, size in product((2, 97), (1, 4, 8)):
            for dimension in range(1, size + 1):
                many = span_number(size, dimension, prime)
                first = from_rows(span_at(size, dimension, prime, 0))
                last = from_rows(span_at(size, dimension, prime, many - 1))
                for k, j in product(range(dimension), range(size)):
                    self.same(first[k, j], Rest(int(k == j), prime))
                    self.same(last[k, j], Rest(int(j == size - dimension + k), prime))
                for value in (many, many + 1, -1, 10 ** 70):
                    self.refuses(InvalidIndex(value), span_at, size=size, dimension=dimension, prime=prime, index=value)
        self.tells((Column((Rest(1, 2), 1)),), span_at, size=2, dimension=1, prime=2, index=1)
        # With pivots at the places 0 and 2 of 4 three entries are free; those with (0, 1) come ahead.
        behind = 3 ** 4 + 5
        self.tells((Column((Rest(1, 3), 0, 0, 1)), Column((Rest(0, 3), 0, 1, 2))), span_at, size=4, dimension=2, prime=3, index=behind)


class Refusals(Told):
    def test_no_grids_and_no_fields(self):
        calls = (stair_form, step_places, free_places, rank, stair_turning, rank_parts, both_turnings)
        for call in calls:
            for value in NO_GRIDS:
                self.refuses(NotAGrid(value), call, grid=value)
            for kind, shape in product(NO_FIELDS, ((1, 1), (2, 3))):
                self.refuses(NotAField(kind), call, grid=nought_grid(kind, *shape))

    def test_pairs_of_grids_in_order(self):
        good = nought_grid("ratio", 2, 3)
        for value in NO_GRIDS:
            self.refuses(NotAGrid(value), row_turning, grid=value, other=None)
            self.refuses(NotAGrid(value), row_turning, grid=value, other=good)
            self.refuses(NotAGrid(value), row_turning, grid=good, other=value)
            self.refuses(NotAGrid(value), row_turning, grid=nought_grid("whole", 2, 3), other=value)
        for kind in NO_FIELDS:
            bad = nought_grid(kind, 3, 2)
            self.refuses(NotAField(kind), row_turning, grid=bad, other=good)
            self.refuses(NotAField(kind), row_turning, grid=good, other=bad)
            self.refuses(NotAField(kind), row_turning, grid=bad, other=bad)
            self.refuses(NotAField(kind), row_turning, grid=bad, other=nought_grid("rest 8", 1, 1))
        for a, b in product(FIELDS, FIELDS):
            if a != b:
                for shape in ((2, 3), (3, 2), (1, 1)):
                    self.refuses(Unlike(a, b), row_turning, grid=nought_grid(a, 2, 3), other=nought_grid(b, *shape))
        for kind, shape in product(FIELDS, ((3, 2), (2, 2), (3, 3), (1, 1))):
            self.refuses(InvalidShape((2, 3), shape), row_turning, grid=nought_grid(kind, 2, 3), other=nought_grid(kind, *shape))

    def test_numbers_of_ranks(self):
        good = {"height": 2, "width": 2, "rank": 1, "prime": 2}
        for value in [*SPOILT, 0, -1, 9, 10 ** 40, Ratio(1)]:
            self.refuses(InvalidNumber(value), rank_number, **{**good, "height": value})
            self.refuses(InvalidNumber(value), rank_number, height=value, width=-7, rank=-7, prime=-7)
            self.refuses(InvalidNumber(value), rank_number, **{**good, "width": value})
            self.refuses(InvalidNumber(value), rank_number, height=1, width=value, rank=-7, prime=-7)
            self.refuses(InvalidNumber(value), span_number, size=value, dimension=1, prime=2)
            self.refuses(InvalidNumber(value), span_number, size=value, dimension=-7, prime=-7)
        for value in [*SPOILT, -1, 9, 10 ** 40, Ratio(1)]:
            self.refuses(InvalidNumber(value), rank_number, **{**good, "rank": value})
            self.refuses(InvalidNumber(value), rank_number, height=8, width=1, rank=value, prime=-7)
            self.refuses(InvalidNumber(value), span_number, size=3, dimension=value, prime=2)
            self.refuses(InvalidNumber(value), span_number, size=3, dimension=value, prime=-7)
        for value in NO_PRIMES:
            self.refuses(InvalidNumber(value), rank_number, **{**good, "prime": value})
            self.refuses(InvalidNumber(value), span_number, size=3, dimension=1, prime=value)
            self.refuses(InvalidNumber(value), span_at, size=3, dimension=1, prime=value, index=0)
            self.refuses(InvalidNumber(value), span_at, size=3, dimension=1, prime=value, index=-7)
        self.same([rank_number(1, 1, 0, 97), span_number(1, 0, 97)], [1, 1])

    def test_spans_by_index(self):
        for value in [*SPOILT, 0, -1, 9, 10 ** 40, Ratio(1)]:
            self.refuses(InvalidNumber(value), span_at, size=value, dimension=1, prime=2, index=0)
            self.refuses(InvalidNumber(value), span_at, size=value, dimension=-7, prime=-7, index=-7)
        for size in (1, 3, 8):
            for value in [*SPOILT, 0, -1, size + 1, 9, 10 ** 40, Ratio(1)]:
                self.refuses(InvalidNumber(value), span_at, size=size, dimension=value, prime=2, index=0)
                self.refuses(InvalidNumber(value), span_at, size=size, dimension=value, prime=-7, index=-7)
        for value in [*SPOILT, -1, 7, Ratio(0), Rest(0, 2)]:
            self.refuses(InvalidIndex(value), span_at, size=3, dimension=1, prime=2, index=value)
