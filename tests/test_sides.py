from itertools import product

from drawn import (
    FIELDS, KINDS, NO_FIELDS, all_grids, drawn_column, drawn_grid, drawn_of_rank, drawn_turning, lot, plain_det, plain_one,
)
from gridwright.blocks import beside, below, piece
from gridwright.columns import Column
from gridwright.dets import det
from gridwright.errors import (
    InvalidNumber, InvalidShape, NoInverse, NotAColumn, NotAField, NotAGrid, NotSquare, Unlike,
)
from gridwright.grids import Grid, diagonal_grid, nought_grid, one_grid
from gridwright.kinds import is_unit, nought, one
from gridwright.leading import led
from gridwright.minors import minor_rank
from gridwright.polys import Poly
from gridwright.ratios import Ratio
from gridwright.rests import Rest
from gridwright.sides import cramer, inverse, is_turning, rest_block, side_grid
from support import SPOILT, Told
from test_columns import NO_COLUMNS
from test_dets import without
from test_grids import NO_GRIDS

SIZES = (1, 2, 3, 4)
UNEQUAL = ((1, 2), (2, 1), (8, 7))


class SideGrids(Told):
    def test_minors_without_a_row_and_a_place(self):
        source = lot("sides")
        for kind, size in product(KINDS, SIZES):
            grid = drawn_grid(kind, size, size, source)
            rows = []
            for i in range(size):
                minors = [plain_det(kind, without(grid, j, i)) for j in range(size)]
                rows.append(tuple(-minor if (i + j) % 2 == 1 else minor for j, minor in enumerate(minors)))
            self.tells(Grid(tuple(rows)), side_grid, grid=grid)
        for kind in KINDS:
            self.tells(one_grid(kind, 1), side_grid, grid=nought_grid(kind, 1, 1))

    def test_a_grid_times_its_side_grid_either_way(self):
        source = lot("sides times")
        for kind, size in product(KINDS, (1, 2, 3, 5)):
            grid = drawn_grid(kind, size, size, source)
            expected = one_grid(kind, size) * det(grid)
            self.same([grid * side_grid(grid), side_grid(grid) * grid], [expected, expected])

    def test_eight_rows(self):
        source = lot("great sides")
        for kind in ("whole", "ratio", "rest 1000000", "rest 97"):
            grid = drawn_grid(kind, 8, 8, source)
            self.same(grid * side_grid(grid), one_grid(kind, 8) * det(grid))
            self.same(side_grid(grid) * grid, one_grid(kind, 8) * det(grid))
        self.same(side_grid(nought_grid("poly ratio", 8, 8)), nought_grid("poly ratio", 8, 8))

    def test_their_ranks_over_fields(self):
        source = lot("side ranks")
        for kind, size in product(FIELDS, (2, 3, 4)):
            for rank in range(size + 1):
                side = side_grid(drawn_of_rank(kind, size, size, rank, source))
                self.same(minor_rank(side), {size: size, size - 1: 1}.get(rank, 0))

    def test_their_determinants(self):
        source = lot("side dets")
        for kind, size in product(KINDS, SIZES):
            grid = drawn_grid(kind, size, size, source)
            expected = one(kind)
            for _ in range(size - 1):
                expected = expected * det(grid)
            self.same(det(side_grid(grid)), expected)


class Cramer(Told):
    def test_determinant_and_column(self):
        source = lot("cramer")
        for kind, size in product(KINDS, SIZES):
            grid, column = drawn_grid(kind, size, size, source), drawn_column(kind, size, source)
            expected = (det(grid), side_grid(grid) * column)
            self.tells(expected, cramer, grid=grid, column=column)
            self.same(grid * expected[1], column * det(grid))

    def test_errors_in_their_order(self):
        good, column = one_grid("ratio", 2), Column((Ratio(1), 2))
        for value in NO_GRIDS:
            self.refuses(NotAGrid(value), cramer, grid=value, column=column)
            self.refuses(NotAGrid(value), cramer, grid=value, column=None)
        for value in NO_COLUMNS:
            self.refuses(NotAColumn(value), cramer, grid=good, column=value)
            self.refuses(NotAColumn(value), cramer, grid=nought_grid("ratio", 2, 3), column=value)
        for a, b in product(KINDS, KINDS):
            if a != b:
                for shape, size in (((2, 2), 2), ((2, 3), 3), ((2, 2), 3)):
                    other = Column((nought(b),) * size)
                    self.refuses(Unlike(a, b), cramer, grid=nought_grid(a, *shape), column=other)
        for shape, size in (((2, 3), 3), ((3, 2), 3), ((2, 3), 1)):
            self.refuses(NotSquare(shape), cramer, grid=nought_grid("whole", *shape), column=Column((1,) * size))
        for size, long in ((2, 3), (2, 1), (8, 7), (1, 2)):
            grid = one_grid("whole", size)
            self.refuses(InvalidShape((size, size), (long, 1)), cramer, grid=grid, column=Column((1,) * long))


class Inverses(Told):
    def test_either_way_they_make_the_one_grid(self):
        source = lot("inverses")
        for kind, size in product(KINDS, (1, 2, 3, 8)):
            grid = drawn_turning(kind, size, source)
            found = inverse(grid)
            self.tells(found, inverse, grid=grid)
            self.same([found.kind, grid * found, found * grid], [kind, plain_one(kind, size), plain_one(kind, size)])
            self.tells(True, is_turning, grid=grid)

    def test_exactly_if_the_determinant_is_a_unit(self):
        source = lot("units")
        for kind, size in product(KINDS, (1, 2, 3)):
            for _ in range(12):
                grid = drawn_grid(kind, size, size, source)
                turning = is_unit(det(grid))
                self.tells(turning, is_turning, grid=grid)
                if turning:
                    self.same(grid * inverse(grid), plain_one(kind, size))
                else:
                    self.refuses(NoInverse(), inverse, grid=grid)

    def test_determinants_that_are_units_and_no_units(self):
        x = Poly("ratio", (0, 1))
        units = [
            Grid(((1, 2), (3, 5))), Grid(((0, 1), (1, 0))), Grid(((-1,),)), Grid(((Ratio(1, 7), 0), (5, 3))),
            Grid(((Rest(5, 6), 0), (1, 5))), Grid(((Rest(3, 4), 2), (2, 3))), Grid(((Rest(999999, 1000000),),)),
            Grid(((x, x * x + 2), (1, x))), Grid(((Poly("ratio", (Ratio(2, 3),)),),)), Grid(((Poly("whole", (-1,)),),)),
            Grid(((Poly("rest 3", (2,)), Poly("rest 3", (0, 0, 1))), (0, 2))), Grid(((Poly("whole", (0, 1)), 1), (-1, 0))),
        ]
        others = [
            Grid(((1, 2), (3, 4))), Grid(((2,),)), Grid(((0,),)), Grid(((Ratio(1), 2), (3, 6))), Grid(((Rest(3, 6),),)),
            Grid(((Rest(1, 4), 1), (1, 3))), Grid(((Rest(1, 1000000), 0), (0, 5))), Grid(((x,),)), Grid(((x, 1), (x * x, x))),
            Grid(((Poly("whole", (2,)),),)), Grid(((Poly("rest 3", (1, 1)), 0), (0, 1))), Grid(((x, 0), (0, x))),
        ]
        for grid in units:
            self.tells(True, is_turning, grid=grid)
            self.same(inverse(grid) * grid, one_grid(grid.kind, len(grid)))
        for grid in others:
            self.tells(False, is_turning, grid=grid)
            self.refuses(NoInverse(), inverse, grid=grid)

    def test_grids_that_are_no_squares(self):
        for kind, shape in product(KINDS, UNEQUAL):
            self.tells(False, is_turning, grid=nought_grid(kind, *shape))
            for call in (inverse, side_grid):
                self.refuses(NotSquare(shape), call, grid=nought_grid(kind, *shape))

    def test_no_grids(self):
        for call in (inverse, side_grid, is_turning):
            for value in NO_GRIDS:
                self.refuses(NotAGrid(value), call, grid=value)

    def test_inverses_led_by_m(self):
        source = lot("led inverses")
        for other in ("rest 12", "rest 7", "ratio", "poly rest 2"):
            grid = drawn_turning("whole", 4, source)
            self.same(led(inverse(grid), other), inverse(led(grid, other)))


class RestBlocks(Told):
    def test_by_their_definition(self):
        source = lot("rest blocks")
        tried = 0
        for kind, size in product(FIELDS, (2, 3, 4, 8)):
            for first in range(1, size):
                grid = drawn_grid(kind, size, size, source)
                ahead, behind = tuple(range(first)), tuple(range(first, size))
                block = piece(grid, ahead, ahead)
                if not is_turning(block):
                    self.refuses(NoInverse(), rest_block, grid=grid, size=first)
                    continue
                tried += 1
                right, under, last = piece(grid, ahead, behind), piece(grid, behind, ahead), piece(grid, behind, behind)
                expected = last - under * inverse(block) * right
                self.tells(expected, rest_block, grid=grid, size=first)
                self.same(det(grid), det(block) * det(expected))
        self.assertGreater(tried, 30)

    def test_the_first_block_with_an_inverse(self):
        block, right = led(Grid(((1, 2), (3, 5))), "ratio"), led(Grid(((1,), (0,))), "ratio")
        grid = below(beside(block, right), led(Grid(((2, 0, 7),)), "ratio"))
        self.tells(Grid(((Ratio(17),),)), rest_block, grid=grid, size=2)
        self.tells(diagonal_grid("rest 5", (3, 4)), rest_block, grid=diagonal_grid("rest 5", (2, 3, 4)), size=1)

    def test_errors_in_their_order(self):
        for value in NO_GRIDS:
            self.refuses(NotAGrid(value), rest_block, grid=value, size=None)
        for kind in KINDS:
            for value in [*SPOILT, 0, -1, 3, 8, 10 ** 40, Ratio(1), Rest(1, 2)]:
                self.refuses(InvalidNumber(value), rest_block, grid=nought_grid(kind, 3, 3), size=value)
                self.refuses(InvalidNumber(value), rest_block, grid=nought_grid(kind, 3, 3 + 1), size=value)
            self.refuses(InvalidNumber(1), rest_block, grid=one_grid(kind, 1), size=1)
        for kind in NO_FIELDS:
            for shape in ((3, 3), (3, 2), (2, 8)):
                self.refuses(NotAField(kind), rest_block, grid=nought_grid(kind, *shape), size=1)
        for kind in FIELDS:
            for shape in ((3, 4), (3, 2), (2, 8)):
                self.refuses(NotSquare(shape), rest_block, grid=nought_grid(kind, *shape), size=1)
            for size in (1, 2, 7):
                self.refuses(NoInverse(), rest_block, grid=nought_grid(kind, 8, 8), size=size)
            self.refuses(NoInverse(), rest_block, grid=Grid(((nought(kind), 1), (1, 0))), size=1)


class AllGrids(Told):
    def test_all_small_grids(self):
        for prime, size in ((2, 2), (3, 2), (2, 3)):
            turning = 0
            for grid in all_grids(prime, size, size):
                self.same(is_turning(grid), bool(plain_det(grid.kind, grid.rows)))
                turning += is_turning(grid)
            expected = 1
            for k in range(size):
                expected *= prime ** size - prime ** k
            self.same(turning, expected)

    def test_all_small_grids_by_four(self):
        for numbers in product(range(4), repeat=4):
            grid = Grid(((Rest(numbers[0], 4), numbers[1]), (numbers[2], numbers[3])))
            self.same(is_turning(grid), (numbers[0] * numbers[3] - numbers[1] * numbers[2]) % 2 == 1)
            if is_turning(grid):
                self.same(grid * inverse(grid), one_grid("rest 4", 2))
