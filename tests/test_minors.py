from itertools import combinations, product
from math import comb

from drawn import FIELDS, KINDS, drawn_grid, drawn_of_rank, lot, plain_minor, plain_rank
from gridwright.dets import det
from gridwright.errors import InvalidIndexes, InvalidNumber, InvalidShape, NotAGrid, TooMany
from gridwright.grids import Grid, diagonal_grid, nought_grid, one_grid
from gridwright.kinds import one
from gridwright.leading import led
from gridwright.minors import leading_minors, minor, minor_rank, minors, near_minors
from gridwright.polys import Poly
from gridwright.ratios import Ratio
from gridwright.rests import Rest
from gridwright.sides import side_grid
from support import SPOILT, Told
from test_grids import NO_GRIDS

SHAPES = ((1, 1), (1, 4), (3, 1), (2, 3), (3, 3), (4, 3))


def ascending(many, size):
    return list(combinations(range(many), size))


class Minors(Told):
    def test_each_single_one(self):
        source = lot("minors")
        for kind, (height, width) in product(KINDS, SHAPES):
            grid = drawn_grid(kind, height, width, source)
            for size in range(1, min(height, width) + 1):
                for rows, places in product(ascending(height, size), ascending(width, size)):
                    self.tells(plain_minor(grid, rows, places), minor, grid=grid, rows=rows, places=places)

    def test_all_of_one_size_by_their_tuples_ascending(self):
        source = lot("all minors")
        for kind, (height, width) in product(KINDS, SHAPES):
            grid = drawn_grid(kind, height, width, source)
            for size in range(1, min(height, width) + 1):
                expected = tuple(tuple(plain_minor(grid, rows, places) for places in ascending(width, size))
                                 for rows in ascending(height, size))
                self.tells(expected, minors, grid=grid, size=size)

    def test_leading_and_near_ones(self):
        source = lot("leading minors")
        for kind, (height, width) in product(KINDS, SHAPES):
            grid = drawn_grid(kind, height, width, source)
            least = min(height, width)
            expected = tuple(plain_minor(grid, range(size), range(size)) for size in range(1, least + 1))
            self.tells(expected, leading_minors, grid=grid)
            for size in range(1, least + 1):
                near = tuple(tuple(plain_minor(grid, range(i, i + size), range(j, j + size)) for j in range(width - size + 1))
                             for i in range(height - size + 1))
                self.tells(near, near_minors, grid=grid, size=size)

    def test_eight_rows(self):
        source = lot("great minors")
        for kind in ("whole", "ratio", "rest 6", "poly rest 3"):
            grid = drawn_grid(kind, 8, 8, source)
            side = side_grid(grid)
            told = minors(grid, 7)
            for i, j in product(range(8), range(8)):
                without = told[7 - i][7 - j]
                self.same(side[j, i], without if (i + j) % 2 == 0 else -without)
            self.same([minors(grid, 8), minors(grid, 1)], [((det(grid),),), grid.rows])
            self.same([leading_minors(grid)[7], near_minors(grid, 8), near_minors(grid, 1)], [det(grid), ((det(grid),),), grid.rows])
            self.same([len(leading_minors(nought_grid(kind, 8, 3))), len(leading_minors(nought_grid(kind, 3, 8)))], [3, 3])
        self.same(leading_minors(one_grid("rest 4", 8)), (Rest(1, 4),) * 8)

    def test_more_than_four_hundred(self):
        for height, width in product(range(1, 9), range(1, 9)):
            for size in range(1, min(height, width) + 1):
                number = comb(height, size) * comb(width, size)
                grid = nought_grid("whole", height, width)
                if number > 400:
                    self.refuses(TooMany(number), minors, grid=grid, size=size)
                else:
                    self.same([len(minors(grid, size)), len(minors(grid, size)[0])], [comb(height, size), comb(width, size)])
        self.same(comb(6, 3) ** 2, 400)


class Theorems(Told):
    def test_minors_of_a_product(self):
        source = lot("minors of products")
        for kind, (a, b, c) in product(KINDS, ((2, 3, 2), (3, 3, 3), (3, 4, 2), (1, 4, 1), (2, 5, 3))):
            left, right = drawn_grid(kind, a, b, source), drawn_grid(kind, b, c, source)
            for size in range(1, min(a, b, c) + 1):
                self.same(minors(left * right, size), product_of(minors(left, size), minors(right, size)))

    def test_minors_of_products_through_few_places_are_nought(self):
        source = lot("few places")
        for kind in KINDS:
            left, right = drawn_grid(kind, 3, 2, source), drawn_grid(kind, 2, 3, source)
            self.same([bool(det(left * right)), minors(left * right, 3)], [False, ((det(left * right),),)])

    def test_near_minors(self):
        source = lot("near minors")
        for kind in KINDS:
            grid = drawn_grid(kind, 5, 4, source)
            told = {size: near_minors(grid, size) for size in (1, 2, 3, 4)}
            told[0] = ((one(kind),) * 5,) * 6
            for size in (1, 2, 3):
                for i, j in product(range(5 - size), range(4 - size)):
                    inner = told[size - 1][i + 1][j + 1]
                    first, last = told[size][i][j], told[size][i + 1][j + 1]
                    right, below = told[size][i][j + 1], told[size][i + 1][j]
                    self.same(told[size + 1][i][j] * inner, first * last - right * below)


def product_of(rows, others):
    """The rows of the product of two tables that are greater than grids."""
    return tuple(tuple(sum((a * others[k][j] for k, a in enumerate(row)), start=row[0] * 0)
                       for j in range(len(others[0]))) for row in rows)


class Ranks(Told):
    def test_of_any_kind(self):
        source = lot("minor ranks")
        for kind, (height, width) in product(KINDS, ((1, 1), (1, 3), (2, 2), (3, 2), (3, 3))):
            for _ in range(4):
                grid = drawn_grid(kind, height, width, source)
                self.tells(plain_rank(grid), minor_rank, grid=grid)
            self.tells(0, minor_rank, grid=nought_grid(kind, height, width))

    def test_of_products_through_few_places(self):
        source = lot("low ranks")
        for kind in KINDS:
            for places in (1, 2):
                grid = drawn_grid(kind, 4, places, source) * drawn_grid(kind, places, 3, source)
                self.tells(plain_rank(grid), minor_rank, grid=grid)
                self.assertLessEqual(minor_rank(grid), places)

    def test_over_fields_all_ranks(self):
        source = lot("ranks")
        for kind, rank in product(FIELDS, range(5)):
            self.tells(rank, minor_rank, grid=drawn_of_rank(kind, 5, 4, rank, source))
        for kind in FIELDS:
            self.same(minor_rank(drawn_of_rank(kind, 8, 8, 7, source)), 7)
            self.same(minor_rank(one_grid(kind, 8)), 8)

    def test_by_moduli_that_are_no_primes(self):
        told = ((2, 3), 1), ((2, 2), 2), ((2, 5), 2), ((3, 3), 2), ((4, 3), 1), ((1, 2, 3), 2), ((2, 2, 3), 2), ((5, 1, 5), 3)
        for entries, rank in told:
            self.same(minor_rank(diagonal_grid("rest 6", entries)), rank)
        self.same([minor_rank(diagonal_grid("rest 8", (2,) * k)) for k in (1, 2, 3, 4)], [1, 2, 2, 2])
        self.same([minor_rank(diagonal_grid("rest 6", (2, 3, 1, 1, 1, 1, 1, 1))), minor_rank(nought_grid("rest 4", 8, 8))], [7, 0])

    def test_of_polys(self):
        for kind in ("poly whole", "poly ratio", "poly rest 3"):
            x = Poly(kind[5:], (0, 1))
            self.same(minor_rank(Grid(((x, x * x), (1, x)))), 1)
            self.same(minor_rank(Grid(((x, x * x + 2), (1, x)))), 2)
            self.same(minor_rank(Grid(((0, x), (0, 0)))), 1)
            self.same(minor_rank(Grid(((0, 2 * x), (2, 0), (x, x)))), 2)
        self.same(minor_rank(Grid(((Poly("whole", (2, 4)), 3), (Poly("whole", (4, 8)), 6)))), 1)

    def test_led_to_more_the_rank_stays(self):
        source = lot("led ranks")
        for _ in range(20):
            grid = drawn_grid("whole", 3, 3, source)
            self.same([minor_rank(led(grid, "ratio")), minor_rank(led(grid, "poly whole"))], [minor_rank(grid)] * 2)


class Refusals(Told):
    def test_no_grids(self):
        for value in NO_GRIDS:
            self.refuses(NotAGrid(value), minor, grid=value, rows=None, places=None)
            self.refuses(NotAGrid(value), minor, grid=value, rows=(0,), places=(0,))
            self.refuses(NotAGrid(value), minors, grid=value, size=0)
            self.refuses(NotAGrid(value), near_minors, grid=value, size=0)
            self.refuses(NotAGrid(value), leading_minors, grid=value)
            self.refuses(NotAGrid(value), minor_rank, grid=value)

    def test_indexes_that_are_wrong(self):
        both = ((None, None), ((), None), ([0], None), ("01", None), (1, None), ((None,), 0), ((-1,), 0), ((True,), 0),
                ((0, 0), 1), ((1, 0), 1), ((0, 1, 1), 2), ((0, "1"), 1), ((0, 10 ** 40), 1), ((Ratio(0),), 0), ((0, False), 1),
                (((0,),), 0), ((0, 1, 0), 2))
        for kind in ("whole", "rest 4"):
            grid = nought_grid(kind, 3, 4)
            for value, index in (*both, ((3,), 0), ((0, 1, 2, 3), 3), ((1, 2, 3), 2)):
                self.refuses(InvalidIndexes(index), minor, grid=grid, rows=value, places=(0, 1, 2, 3))
                self.refuses(InvalidIndexes(index), minor, grid=grid, rows=value, places=((0, 1, 5),))
            for value, index in (*both, ((4,), 0), ((0, 1, 2, 3, 4), 4), ((2, 1), 1)):
                self.refuses(InvalidIndexes(index), minor, grid=grid, rows=(0,), places=value)

    def test_unlike_numbers_of_rows_and_places(self):
        grid = nought_grid("poly ratio", 3, 4)
        for rows, places in (((0,), (0, 1)), ((0, 1, 2), (0,)), ((0, 1, 2), (0, 1, 2, 3)), ((1, 2), (0, 1, 3))):
            shape = (len(rows), len(places))
            self.refuses(InvalidShape(shape, (3, 4)), minor, grid=grid, rows=rows, places=places)

    def test_sizes_that_are_none(self):
        for call in (minors, near_minors):
            for shape in ((3, 3), (2, 5), (5, 2), (8, 8)):
                for value in [*SPOILT, 0, -1, min(shape) + 1, 9, 10 ** 40, Ratio(1), Rest(1, 2)]:
                    self.refuses(InvalidNumber(value), call, grid=nought_grid("whole", *shape), size=value)
