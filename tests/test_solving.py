from itertools import product

from drawn import (
    FIELDS, all_columns, all_grids, drawn_column, drawn_grid, drawn_number, drawn_of_rank, lot, plain_sum, span_of,
    stands_in_stairs,
)
from gridwright.columns import Column, dot
from gridwright.errors import InvalidIndex
from gridwright.grids import Grid, from_columns, from_rows, nought_grid
from gridwright.kinds import nought, one
from gridwright.leading import led
from gridwright.ratios import Ratio
from gridwright.rests import Rest
from gridwright.solving import bar, nought_base, solution, solution_at, solutions_number, solve_grid
from gridwright.spans import bar_base, base_of
from gridwright.stairs import free_places, rank, stair_form
from support import Told

SHAPES = ((1, 1), (1, 8), (8, 1), (2, 3), (3, 2), (4, 4), (5, 8), (8, 8))
LIMITED = ((2, 1, 1), (2, 2, 2), (2, 2, 3), (2, 3, 2), (3, 1, 2), (3, 2, 2), (5, 1, 2))


def by_all_ranks(kind, name):
    source = lot(name)
    for height, width in SHAPES:
        for wanted in sorted({0, 1, min(height, width) - 1, min(height, width)}):
            yield drawn_of_rank(kind, height, width, wanted, source), source
    yield drawn_of_rank(kind, 8, 8, 5, source), source


def noughts(kind, size):
    return Column((nought(kind),) * size)


class NoughtSpaces(Told):
    def test_base_of_what_is_led_to_nought(self):
        for kind in FIELDS:
            for grid, _ in by_all_ranks(kind, "nought spaces"):
                base = nought_base(grid)
                self.tells(base, nought_base, grid=grid)
                self.same(len(base), grid.shape[1] - rank(grid))
                for column in base:
                    self.same(grid * column, noughts(kind, len(grid)))
                if base:
                    rows = from_rows(base)
                    self.same([rows.kind, stands_in_stairs(rows), rank(rows)], [kind, True, len(base)])

    def test_all_columns_that_are_led_to_nought(self):
        for prime, height, width in LIMITED:
            for grid in all_grids(prime, height, width):
                led_there = {column.text for column in all_columns(prime, width) if not grid * column}
                base = nought_base(grid)
                self.same(span_of(base, prime) if base else {noughts(grid.kind, width).text}, led_there)

    def test_the_span_of_the_columns_by_the_bars(self):
        for kind in FIELDS:
            for grid, _ in by_all_ranks(kind, "bars of bars"):
                bars = nought_base(grid.turned)
                if bars:
                    self.same(bar_base(bars), base_of(grid.columns))
                else:
                    self.same(len(base_of(grid.columns)), len(grid))


class Solutions(Told):
    def test_one_solution_with_noughts_at_all_free_places_or_a_bar(self):
        for kind in FIELDS:
            for grid, source in by_all_ranks(kind, "solutions"):
                for column in (grid * drawn_column(kind, grid.shape[1], source), drawn_column(kind, len(grid), source),
                               noughts(kind, len(grid))):
                    found, against = solution(grid, column), bar(grid, column)
                    self.tells(found, solution, grid=grid, column=column)
                    self.tells(against, bar, grid=grid, column=column)
                    self.same(found is None, against is not None)
                    if found is not None:
                        self.same([grid * found, found.kind], [column, kind])
                        self.same([found.entries[place] for place in free_places(grid)], [nought(kind)] * len(free_places(grid)))
                    else:
                        self.same([grid.turned * against, dot(against, column)], [noughts(kind, grid.shape[1]), one(kind)])

    def test_what_is_led_there_always_has_a_solution(self):
        for kind in FIELDS:
            for grid, source in by_all_ranks(kind, "led there"):
                self.assertIsNotNone(solution(grid, grid * drawn_column(kind, grid.shape[1], source)))

    def test_all_small_equations(self):
        for prime, height, width in LIMITED:
            for grid in all_grids(prime, height, width):
                led_to = {}
                for column in all_columns(prime, width):
                    led_to.setdefault((grid * column).text, []).append(column)
                free = free_places(grid)
                for column in all_columns(prime, height):
                    fitting = led_to.get(column.text, [])
                    self.same(solutions_number(grid, column), len(fitting))
                    plain = [one for one in fitting if not any(one.entries[place] for place in free)]
                    self.same(solution(grid, column), plain[0] if fitting else None)
                    self.same(len(plain), 1 if fitting else 0)
                    self.same(bar(grid, column) is None, bool(fitting))

    def test_great_numbers(self):
        far = 10 ** 30 + 57
        grid = led(Grid(((far, 1, far - 1), (2, far, far + 1))), "ratio")
        column = led(Column((far + 5, -far)), "ratio")
        self.same(grid * solution(grid, column), column)
        flat = led(Grid(((far, 2 * far), (far ** 2, 2 * far ** 2))), "ratio")
        against = bar(flat, led(Column((1, 1)), "ratio"))
        self.same([flat.turned * against, dot(against, led(Column((1, 1)), "ratio"))], [noughts("ratio", 2), Ratio(1)])

    def test_the_edges(self):
        zero = nought_grid("ratio", 8, 8)
        self.tells(noughts("ratio", 8), solution, grid=zero, column=noughts("ratio", 8))
        self.tells(None, bar, grid=zero, column=noughts("ratio", 8))
        self.same(len(nought_base(zero)), 8)
        self.tells((), nought_base, grid=Grid(((Rest(5, 7),),)))
        self.tells(Column((Rest(3, 7),)), solution, grid=Grid(((Rest(5, 7),),)), column=Column((Rest(1, 7),)))
        self.tells(Column((Rest(4, 7),)), bar, grid=Grid(((Rest(0, 7),),)), column=Column((Rest(2, 7),)))


class Counted(Told):
    def test_how_many_and_each_by_its_index(self):
        source = lot("counted")
        for kind, shape, wanted in product(("rest 2", "rest 3", "rest 5"), ((1, 1), (1, 3), (2, 4), (3, 3), (3, 1)), (0, 1, 2)):
            if wanted > min(shape):
                continue
            prime = int(kind[5:])
            grid = drawn_of_rank(kind, *shape, wanted, source)
            for column in (grid * drawn_column(kind, shape[1], source), drawn_column(kind, shape[0], source)):
                number = solutions_number(grid, column)
                if solution(grid, column) is None:
                    self.tells(0, solutions_number, grid=grid, column=column)
                    self.refuses(InvalidIndex(0), solution_at, grid=grid, column=column, index=0)
                    continue
                self.tells(prime ** (shape[1] - wanted), solutions_number, grid=grid, column=column)
                texts = set()
                for index in range(number):
                    found = solution_at(grid, column, index)
                    self.same([grid * found, found.kind], [column, kind])
                    texts.add(found.text)
                    figures = [found.entries[place].number for place in free_places(grid)[::-1]]
                    self.same(sum(figure * prime ** k for k, figure in enumerate(figures)), index)
                self.same(len(texts), number)
                self.refuses(InvalidIndex(number), solution_at, grid=grid, column=column, index=number)
                self.same(solution_at(grid, column, 0), solution(grid, column))

    def test_the_last_of_very_many(self):
        grid = nought_grid("rest 999983", 1, 8)
        column = Column((Rest(0, 999983),))
        many = 999983 ** 8
        self.tells(many, solutions_number, grid=grid, column=column)
        self.tells(Column((Rest(999982, 999983),) * 8), solution_at, grid=grid, column=column, index=many - 1)
        self.tells(Column((Rest(0, 999983),) * 6 + (1, 5)), solution_at, grid=grid, column=column, index=999983 + 5)
        self.refuses(InvalidIndex(many), solution_at, grid=grid, column=column, index=many)

    def test_all_are_one_of_them_and_a_column_of_the_nought_space(self):
        grid, column = led(Grid(((1, 2, 0, 1), (2, 1, 1, 1))), "rest 3"), led(Column((1, 2)), "rest 3")
        first, space = solution(grid, column), span_of(nought_base(grid), 3)
        told = {(solution_at(grid, column, index) - first).text for index in range(solutions_number(grid, column))}
        self.same(told, space)


class GridsSolved(Told):
    def test_column_by_column(self):
        for kind in FIELDS:
            for grid, source in by_all_ranks(kind, "grids solved"):
                for width in (1, 3, 8):
                    times = drawn_grid(kind, grid.shape[1], width, source)
                    for other in (grid * times, drawn_grid(kind, len(grid), width, source)):
                        columns = [solution(grid, column) for column in other.columns]
                        expected = None if None in columns else from_columns(tuple(columns))
                        self.tells(expected, solve_grid, grid=grid, other=other)
                        if expected is not None:
                            self.same(grid * expected, other)

    def test_inverses_and_noughts(self):
        grid = led(Grid(((1, 2), (3, 5))), "rest 7")
        self.same(solve_grid(grid, grid ** 0), grid ** -1)
        zero = nought_grid("ratio", 3, 2)
        self.tells(nought_grid("ratio", 2, 4), solve_grid, grid=zero, other=nought_grid("ratio", 3, 4))
        self.tells(None, solve_grid, grid=zero, other=Grid(((Ratio(0),), (0,), (1,))))

    def test_rows_of_noughts_at_the_free_places(self):
        grid = led(Grid(((1, 2, 3), (2, 4, 7))), "ratio")
        found = solve_grid(grid, led(Grid(((1, 0), (0, 1))), "ratio"))
        self.same(found.row(1), noughts("ratio", 2))
        self.same(grid * found, led(Grid(((1, 0), (0, 1))), "ratio"))


class Theorems(Told):
    def test_a_solution_exactly_if_the_column_is_no_step_place_beside(self):
        source = lot("step places")
        for kind in FIELDS:
            for grid, _ in by_all_ranks(kind, "beside"):
                column = drawn_column(kind, len(grid), source)
                if grid.shape[1] < 8:
                    both = Grid(tuple(row + (column.entries[k],) for k, row in enumerate(grid.rows)))
                    self.same(solution(grid, column) is not None, rank(both) == rank(grid))

    def test_sums_of_solutions(self):
        source = lot("sums of solutions")
        for kind in FIELDS:
            grid = drawn_of_rank(kind, 4, 6, 3, source)
            one_column, other = grid * drawn_column(kind, 6, source), grid * drawn_column(kind, 6, source)
            number = drawn_number(kind, source)
            self.same(solution(grid, one_column + other * number), solution(grid, one_column) + solution(grid, other) * number)

    def test_turning_rows_changes_no_solution(self):
        source = lot("turned rows")
        for kind in FIELDS:
            grid = drawn_of_rank(kind, 3, 5, 2, source)
            column = grid * drawn_column(kind, 5, source)
            turning = drawn_of_rank(kind, 3, 3, 3, source)
            self.same(solution(turning * grid, turning * column), solution(grid, column))
            self.same(nought_base(turning * grid), nought_base(grid))
            self.same(stair_form(turning * grid), stair_form(grid))

    def test_relations_of_the_columns(self):
        source = lot("relations")
        for kind in FIELDS:
            grid = drawn_of_rank(kind, 3, 6, 3, source)
            for column in nought_base(grid):
                self.same(plain_sum(grid.columns, column.entries), noughts(kind, 3))
