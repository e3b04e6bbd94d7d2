from itertools import product

from drawn import drawn_whole, drawn_whole_of_rank, drawn_whole_turning, is_member, lot, stands_in_whole_stairs
from gridwright.columns import Column, dot
from gridwright.errors import InvalidShape, NotAColumn, NotAGrid, NotWhole
from gridwright.grids import Grid, from_rows, nought_grid
from gridwright.lattices import lies_within, member_bar, member_by, plain_base, plain_member
from gridwright.leading import led
from gridwright.ratios import Ratio
from gridwright.solving import bar, solution
from gridwright.stairs import rank
from gridwright.wholesolving import whole_bar, whole_noughts, whole_solution
from support import Told
from test_columns import NO_COLUMNS
from test_grids import NO_GRIDS

SMALL = ((1, 1), (1, 2), (2, 1), (2, 2), (1, 3), (2, 3), (3, 2))
GREAT = ((1, 8), (8, 1), (4, 6), (8, 5), (5, 8), (8, 8))


def small_grids(name):
    source = lot(name)
    for height, width in SMALL:
        yield nought_grid("whole", height, width)
        for _ in range(4):
            yield drawn_whole(height, width, source, 4)
        yield drawn_whole_of_rank(height, width, 1, source, 2)


def great_grids(name):
    source = lot(name)
    for height, width in GREAT:
        for wanted in sorted({1, min(height, width) - 1, min(height, width)} - {0}):
            yield drawn_whole_of_rank(height, width, wanted, source), source
        yield drawn_whole(height, width, source, 10 ** 30), source


def window(size, most):
    for entries in product(range(-most, most + 1), repeat=size):
        yield Column(entries)


def is_whole(column):
    return all(entry.is_whole for entry in column.entries)


class Solutions(Told):
    def holds(self, grid, column, expected=None):
        """That the plain solution is told, or a bar, and never both."""
        found, against = whole_solution(grid, column), whole_bar(grid, column)
        self.tells(found, whole_solution, grid=grid, column=column)
        self.same(found is None, against is not None)
        if expected is not None:
            self.same(found is not None, expected)
        if found is not None:
            self.same([found.kind, grid * found], ["whole", column])
            for base in whole_noughts(grid):
                place = [bool(entry) for entry in base.entries].index(True)
                self.assertTrue(0 <= found.entries[place] < base.entries[place])
            return
        for told in (against, whole_bar(grid=grid, column=column)):
            self.same([told.kind, len(told)], ["ratio", len(grid)])
            self.same(is_whole(led(grid.turned, "ratio") * told), True)
            self.same(dot(told, led(column, "ratio")).is_whole, False)

    def test_small_ones(self):
        for grid in small_grids("whole equations"):
            for column in window(len(grid), 3 if len(grid) < 3 else 1):
                self.holds(grid, column, is_member(grid.turned, column.entries))

    def test_great_ones(self):
        for grid, source in great_grids("great whole equations"):
            self.holds(grid, grid * Column(tuple(source.randint(-10 ** 20, 10 ** 20) for _ in range(grid.shape[1]))), True)
            self.holds(grid, Column(tuple(source.randint(-9, 9) for _ in grid.rows)))
            self.holds(grid, Column((0,) * len(grid)), True)

    def test_all_solutions_are_the_plain_one_and_a_nought(self):
        for grid in small_grids("all solutions"):
            width = grid.shape[1]
            noughts = whole_noughts(grid)
            for column in window(width, 2):
                found = whole_solution(grid, grid * column)
                if noughts:
                    self.assertIsNotNone(member_by(from_rows(noughts), column - found))
                    self.same(plain_member(from_rows(noughts), column), found)
                else:
                    self.same(found, column)

    def test_the_edges(self):
        self.tells(Column((0, 0)), whole_solution, grid=nought_grid("whole", 2, 2), column=Column((0, 0)))
        self.tells(None, whole_solution, grid=nought_grid("whole", 2, 2), column=Column((0, 1)))
        self.tells(Column((10 ** 30,)), whole_solution, grid=Grid(((7,),)), column=Column((7 * 10 ** 30,)))
        self.tells(None, whole_solution, grid=Grid(((7,),)), column=Column((7 * 10 ** 30 + 1,)))
        self.tells(Column((1, -1)), whole_solution, grid=Grid(((5, 4),)), column=Column((1,)))
        self.holds(Grid(((2, 4), (4, 8))), Column((2, 5)), False)
        self.holds(Grid(((2, 4), (4, 8))), Column((1, 2)), False)

    def test_those_in_ratios(self):
        # A bar of the equations in ratios is one in whole numbers once it is made small enough; not the other way round.
        for grid in small_grids("in ratios"):
            for column in window(len(grid), 2 if len(grid) < 3 else 1):
                if bar(led(grid, "ratio"), led(column, "ratio")) is not None:
                    self.assertIsNotNone(whole_bar(grid, column))
                if whole_solution(grid, column) is not None:
                    self.assertIsNotNone(solution(led(grid, "ratio"), led(column, "ratio")))
        only = Grid(((2,),))
        self.same([whole_solution(only, Column((1,))), solution(led(only, "ratio"), Column((Ratio(1),)))],
                  [None, Column((Ratio(1, 2),))])


class Noughts(Told):
    def test_the_lattice_of_what_is_led_to_nought(self):
        for grid in small_grids("noughts"):
            base = whole_noughts(grid)
            self.tells(base, whole_noughts, grid=grid)
            self.same(len(base), grid.shape[1] - rank(led(grid, "ratio")))
            if base:
                self.same([stands_in_whole_stairs(from_rows(base)), plain_base(from_rows(base))], [True, base])
            for column in window(grid.shape[1], 3):
                inside = base != () and member_by(from_rows(base), column) is not None or not column
                self.same(inside, not grid * column)

    def test_great_ones(self):
        for grid, source in great_grids("great noughts"):
            base = whole_noughts(grid)
            self.same(len(base), grid.shape[1] - rank(led(grid, "ratio")))
            for column in base:
                self.same(grid * column, Column((0,) * len(grid)))
            self.same(whole_noughts(drawn_whole_turning(len(grid), source) * grid), base)

    def test_the_edges(self):
        self.tells((), whole_noughts, grid=Grid(((5,),)))
        self.tells((Column((1,)),), whole_noughts, grid=Grid(((0,),)))
        self.same(len(whole_noughts(nought_grid("whole", 8, 8))), 8)
        self.tells((Column((10 ** 30, -1)),), whole_noughts, grid=Grid(((1, 10 ** 30),)))


class Agreement(Told):
    def test_with_lattices(self):
        for grid in small_grids("with lattices"):
            for column in window(grid.shape[1], 1):
                found, by_rows = whole_solution(grid.turned, column), member_by(grid, column)
                self.same([found is None, whole_bar(grid.turned, column) is None],
                          [by_rows is None, member_bar(grid, column) is None])
                if by_rows is not None and whole_noughts(grid.turned):
                    noughts = from_rows(whole_noughts(grid.turned))
                    self.same(lies_within(from_rows((by_rows - found,)), noughts), True)


class Refusals(Told):
    def test_no_grids_and_no_whole_ones(self):
        whole, wide = Column((1, 2)), nought_grid("whole", 3, 2)
        for call in (whole_solution, whole_bar):
            for value in NO_GRIDS:
                self.refuses(NotAGrid(value), call, grid=value, column=None)
            for value in NO_COLUMNS:
                self.refuses(NotAColumn(value), call, grid=nought_grid("ratio", 1, 1), column=value)
            for kind in ("ratio", "rest 3", "rest 6", "poly whole"):
                self.refuses(NotWhole(kind), call, grid=nought_grid(kind, 3, 2), column=Column((Ratio(1), 2)))
                self.refuses(NotWhole(kind), call, grid=wide, column=led(whole, kind))
            self.refuses(InvalidShape((3, 2), (2, 1)), call, grid=wide, column=whole)
        for value in NO_GRIDS:
            self.refuses(NotAGrid(value), whole_noughts, grid=value)
        for kind in ("ratio", "rest 3", "rest 6", "poly whole"):
            self.refuses(NotWhole(kind), whole_noughts, grid=nought_grid(kind, 3, 2))
