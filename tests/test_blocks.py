from itertools import product

from drawn import KINDS, drawn_column, drawn_grid, lot
from gridwright.blocks import below, beside, crossed, pile, piece, put_blocks, unpiled
from gridwright.columns import Column
from gridwright.dets import det
from gridwright.errors import (
    InvalidGrids, InvalidIndexes, InvalidNumber, InvalidShape, NotAColumn, NotAGrid, TooMany, Unlike,
)
from gridwright.grids import Grid, nought_grid, one_grid, trace
from gridwright.kinds import nought
from gridwright.ratios import Ratio
from support import SPOILT, Told
from test_columns import NO_COLUMNS
from test_grids import NO_GRIDS

PAIRS = (beside, below, crossed)


class BesideAndBelow(Told):
    def test_rows_behind_and_below(self):
        source = lot("beside")
        for kind, (a, b, c) in product(KINDS, ((1, 1, 1), (2, 3, 1), (3, 1, 2), (8, 4, 4), (1, 7, 1))):
            left, right = drawn_grid(kind, a, b, source), drawn_grid(kind, a, c, source)
            found = beside(left, right)
            self.tells(found, beside, grid=left, other=right)
            self.same([found.shape, found.columns], [(a, b + c), left.columns + right.columns])
            self.tells(found.turned, below, grid=left.turned, other=right.turned)
            self.same(found.turned.rows, left.turned.rows + right.turned.rows)

    def test_shapes_come_ahead_of_sides(self):
        self.refuses(InvalidShape((1, 8), (2, 8)), beside, grid=nought_grid("ratio", 1, 8), other=nought_grid("ratio", 2, 8))
        self.refuses(InvalidShape((8, 1), (8, 2)), below, grid=nought_grid("ratio", 8, 1), other=nought_grid("ratio", 8, 2))
        for a, b in ((8, 1), (1, 8), (5, 4), (8, 8)):
            self.refuses(TooMany(a + b), beside, grid=nought_grid("whole", 3, a), other=nought_grid("whole", 3, b))
            self.refuses(TooMany(a + b), below, grid=nought_grid("whole", a, 3), other=nought_grid("whole", b, 3))
        self.same(beside(nought_grid("whole", 8, 3), nought_grid("whole", 8, 5)), nought_grid("whole", 8, 8))


class Pairs(Told):
    def test_errors_in_their_order(self):
        for call in PAIRS:
            for value in NO_GRIDS:
                self.refuses(NotAGrid(value), call, grid=value, other=Grid(((1,),)))
                self.refuses(NotAGrid(value), call, grid=value, other=None)
                self.refuses(NotAGrid(value), call, grid=Grid(((1,),)), other=value)
            for a, b in product(KINDS, KINDS):
                if a != b:
                    for shape in ((1, 1), (2, 3), (8, 8)):
                        self.refuses(Unlike(a, b), call, grid=nought_grid(a, 1, 1), other=nought_grid(b, *shape))
                        self.refuses(Unlike(a, b), call, grid=nought_grid(a, 8, 8), other=nought_grid(b, *shape))


class Blocks(Told):
    def test_each_below_and_behind_the_one_ahead(self):
        source = lot("blocks")
        for kind in KINDS:
            for shapes in (((1, 1),), ((2, 3),), ((1, 2), (2, 1)), ((3, 3), (1, 1), (4, 4)), ((1, 1),) * 8, ((4, 7), (4, 1))):
                grids = tuple(drawn_grid(kind, *shape, source) for shape in shapes)
                found = put_blocks(grids)
                self.tells(found, put_blocks, grids=grids)
                expected = [[nought(kind)] * sum(width for _, width in shapes) for _ in range(sum(h for h, _ in shapes))]
                top = left = 0
                for grid in grids:
                    for i, j in product(range(grid.shape[0]), range(grid.shape[1])):
                        expected[top + i][left + j] = grid[i, j]
                    top, left = top + grid.shape[0], left + grid.shape[1]
                self.same(found, Grid(tuple(map(tuple, expected))))

    def test_determinant_and_trace_of_square_blocks(self):
        source = lot("square blocks")
        for kind in KINDS:
            a, b = drawn_grid(kind, 2, 2, source), drawn_grid(kind, 3, 3, source)
            self.same(det(put_blocks((a, b))), det(a) * det(b))
            self.same(trace(put_blocks((a, b))), trace(a) + trace(b))

    def test_grids_that_are_wrong(self):
        a, b = Grid(((1, 2),)), Grid(((Ratio(1),),))
        told = ((None, None), ((), None), ([a], None), (a, None), ((None,), 0), ((Column((1,)),), 0), ((a, ((1,),)), 1),
                ((a, b), 1), ((a, a, b, None), 2), ((a,) * 9, 8), ((a,) * 8 + (None,), 8), ((b,) * 8 + (a,), 8),
                ((a,) * 7 + (b, a), 7))
        for grids, index in told:
            self.refuses(InvalidGrids(index), put_blocks, grids=grids)

    def test_sides_above_eight_the_height_first(self):
        def blocks(*shapes):
            return tuple(nought_grid("rest 4", *shape) for shape in shapes)
        self.refuses(TooMany(9), put_blocks, grids=blocks((8, 1), (1, 1)))
        self.refuses(TooMany(10), put_blocks, grids=blocks((1, 8), (1, 2)))
        self.refuses(TooMany(9), put_blocks, grids=blocks((8, 8), (1, 8)))
        self.refuses(TooMany(16), put_blocks, grids=blocks((8, 1), (8, 8)))
        self.same(put_blocks(blocks((4, 4), (4, 4))).shape, (8, 8))


class Crossed(Told):
    def test_in_the_place_of_each_entry_the_other_grid(self):
        source = lot("crossed")
        for kind, (a, b, c, d) in product(KINDS, ((1, 1, 1, 1), (2, 2, 2, 2), (1, 2, 3, 1), (2, 4, 4, 2), (8, 1, 1, 8))):
            left, right = drawn_grid(kind, a, b, source), drawn_grid(kind, c, d, source)
            found = crossed(left, right)
            self.tells(found, crossed, grid=left, other=right)
            self.same(found.shape, (a * c, b * d))
            for i, j in product(range(a * c), range(b * d)):
                self.same(found[i, j], left[i // c, j // d] * right[i % c, j % d])

    def test_products_of_crossed_grids(self):
        source = lot("crossed products")
        for kind in KINDS:
            a, b = drawn_grid(kind, 2, 3, source), drawn_grid(kind, 3, 2, source)
            c, d = drawn_grid(kind, 3, 2, source), drawn_grid(kind, 2, 3, source)
            self.same(crossed(a, c) * crossed(b, d), crossed(a * b, c * d))

    def test_sides_above_eight_the_height_first(self):
        for first, second, side in (((3, 1), (3, 1), 9), ((1, 3), (1, 3), 9), ((3, 8), (4, 8), 12), ((8, 8), (8, 8), 64),
                                    ((2, 8), (4, 2), 16)):
            self.refuses(TooMany(side), crossed, grid=nought_grid("ratio", *first), other=nought_grid("ratio", *second))


class Piles(Told):
    def test_all_columns_the_first_one_on_top(self):
        source = lot("piles")
        for kind, (height, width) in product(KINDS, ((1, 1), (1, 8), (8, 1), (2, 3), (4, 2), (2, 4))):
            grid = drawn_grid(kind, height, width, source)
            expected = Column(tuple(grid[i, j] for j in range(width) for i in range(height)))
            self.tells(expected, pile, grid=grid)
            self.tells(grid, unpiled, column=expected, height=height)

    def test_the_pile_of_a_product_of_three(self):
        source = lot("pile of three")
        for kind, (a, b, c, d) in product(KINDS, ((2, 2, 2, 2), (1, 3, 2, 4), (4, 2, 4, 2), (2, 4, 1, 3))):
            left, middle, right = (drawn_grid(kind, *shape, source) for shape in ((a, b), (b, c), (c, d)))
            self.same(pile(left * middle * right), crossed(right.turned, left) * pile(middle))

    def test_refusals(self):
        for value in NO_GRIDS:
            self.refuses(NotAGrid(value), pile, grid=value)
        for height, width in ((3, 3), (1, 8), (8, 2), (2, 5), (8, 8)):
            if height * width > 8:
                self.refuses(TooMany(height * width), pile, grid=nought_grid("poly whole", height, width))

    def test_heights_that_do_not_divide(self):
        source = lot("unpiled")
        for size in range(1, 9):
            column = drawn_column("rest 6", size, source)
            for height in range(1, size + 1):
                if size % height == 0:
                    self.same([unpiled(column, height).shape, pile(unpiled(column, height))], [(height, size // height), column])
                else:
                    self.refuses(InvalidNumber(height), unpiled, column=column, height=height)
            for value in [*SPOILT, 0, -1, -size, size + 1, 2 * size, 10 ** 40, Ratio(1)]:
                self.refuses(InvalidNumber(value), unpiled, column=column, height=value)
        for value in NO_COLUMNS:
            self.refuses(NotAColumn(value), unpiled, column=value, height=1)
            self.refuses(NotAColumn(value), unpiled, column=value, height=None)


class Pieces(Told):
    def test_rows_and_places_in_any_order_and_again(self):
        source = lot("pieces")
        for kind in KINDS:
            grid = drawn_grid(kind, 3, 4, source)
            for rows, places in product(((0,), (2, 0), (1, 1), (0, 1, 2) * 2 + (2, 2)), ((3,), (0, 3, 1), (2, 2), (0,) * 8)):
                expected = Grid(tuple(tuple(grid.rows[i][j] for j in places) for i in rows))
                self.tells(expected, piece, grid=grid, rows=rows, places=places)
            self.same(piece(grid, (0, 1, 2), (0, 1, 2, 3)), grid)

    def test_indexes_that_are_wrong(self):
        grid = nought_grid("ratio", 2, 3)
        both = ((None, None), ((), None), ([0], None), (0, None), ("0", None), ((None,), 0), ((-1,), 0), ((True,), 0),
                ((0, "1"), 1), ((1, 0, 10 ** 40), 2), ((0,) * 9, 8), ((0,) * 8 + (None, 7), 8), ((0,) * 7 + (9, 0), 7),
                ((Ratio(0),), 0), (((0,),), 0))
        for value, index in (*both, ((2,), 0), ((0, 1, 2), 2)):
            self.refuses(InvalidIndexes(index), piece, grid=grid, rows=value, places=(0,))
            self.refuses(InvalidIndexes(index), piece, grid=grid, rows=value, places=((0, 0, 5),))
        for value, index in (*both, ((3,), 0), ((2, 1, 0, 3), 3)):
            self.refuses(InvalidIndexes(index), piece, grid=grid, rows=(0,), places=value)
        for value in NO_GRIDS:
            self.refuses(NotAGrid(value), piece, grid=value, rows=(0,), places=(0,))
            self.refuses(NotAGrid(value), piece, grid=value, rows=None, places=None)


class Units(Told):
    def test_the_one_grid_crossed(self):
        for kind in KINDS:
            self.same(crossed(one_grid(kind, 2), one_grid(kind, 4)), one_grid(kind, 8))
