from itertools import combinations, product
from math import prod

from drawn import FIELDS, KINDS, drawn_grid, drawn_number, drawn_turning, lot, plain_det, plain_minor
from gridwright.dets import det, det_along, det_bound, det_by_orders, det_rests, det_tables, det_walk, from_rests
from gridwright.errors import (
    InvalidIndex, InvalidNumber, InvalidPairs, NoTriangles, NotAField, NotAGrid, NotSquare, NotWhole, Quarrels, TooFew,
    TooMany,
)
from gridwright.grids import Grid, diagonal_grid, exchange_grid, nought_grid, one_grid, order_sign
from gridwright.kinds import nought, number_of, one
from gridwright.leading import led
from gridwright.polys import Poly
from gridwright.ratios import Ratio
from gridwright.rests import Rest
from support import SPOILT, Told
from test_grids import NO_GRIDS

SIZES = (1, 2, 3, 4)
PRIMES = [k for k in range(2, 1000) if all(k % f for f in range(2, int(k ** 0.5) + 1))]


def without(grid, row, place):
    """The rows of a grid without one and without one place."""
    return [[number for j, number in enumerate(numbers) if j != place] for i, numbers in enumerate(grid.rows) if i != row]


class Determinants(Told):
    def test_the_definition(self):
        source = lot("dets")
        for kind, size in product(KINDS, SIZES):
            for _ in range(3):
                grid = drawn_grid(kind, size, size, source)
                expected = plain_det(kind, grid.rows)
                self.tells(expected, det, grid=grid)
                self.tells(expected, det_by_orders, grid=grid)

    def test_eight_rows(self):
        source = lot("great dets")
        for kind in KINDS:
            grid = drawn_turning(kind, 8, source)
            self.same(det(grid), one(kind))
            entries = tuple(drawn_number(kind, source) for _ in range(8))
            total = one(kind)
            for entry in entries:
                total = total * entry
            self.same(det(grid * diagonal_grid(kind, entries)), total)
            self.same(det(nought_grid(kind, 8, 8)), nought(kind))

    def test_by_orders_up_to_size_six(self):
        source = lot("orders")
        for kind in ("whole", "rest 6", "poly rest 3"):
            for size in (5, 6):
                grid = drawn_grid(kind, size, size, source)
                self.same(det_by_orders(grid), det(grid))
        for kind, size in product(KINDS, (7, 8)):
            self.refuses(TooMany(size), det_by_orders, grid=nought_grid(kind, size, size))

    def test_rows_exchanged_added_and_multiplied(self):
        source = lot("steps")
        for kind in KINDS:
            grid, number = drawn_grid(kind, 4, 4, source), drawn_number(kind, source)
            for i, j in combinations(range(4), 2):
                rows = list(grid.rows)
                rows[i], rows[j] = rows[j], rows[i]
                self.same(det(Grid(tuple(rows))), -det(grid))
                rows = list(grid.rows)
                rows[i] = tuple(a + number * b for a, b in zip(rows[i], rows[j]))
                self.same(det(Grid(tuple(rows))), det(grid))
                rows = list(grid.rows)
                rows[i] = tuple(a * number for a in rows[i])
                self.same(det(Grid(tuple(rows))), det(grid) * number)
                rows[i] = rows[j]
                self.same(det(Grid(tuple(rows))), nought(kind))

    def test_turned_over_and_of_products(self):
        source = lot("det of products")
        for kind, size in product(KINDS, (1, 2, 3, 5)):
            a, b = drawn_grid(kind, size, size, source), drawn_grid(kind, size, size, source)
            self.same([det(a.turned), det(a * b)], [det(a), det(a) * det(b)])

    def test_exchange_grids_have_the_sign_of_their_order(self):
        for order in ((0,), (1, 0), (2, 0, 1), (3, 1, 2, 0), (7, 6, 5, 4, 3, 2, 0, 1)):
            self.same(det(exchange_grid(order)), order_sign(order))

    def test_the_determinant_led_by_m(self):
        source = lot("led dets")
        for kind, other in (("whole", "rest 12"), ("whole", "rest 999983"), ("whole", "poly rest 3"), ("rest 1000000", "rest 8"),
                            ("ratio", "rest 97"), ("poly whole", "poly rest 2"), ("whole", "ratio")):
            for size in SIZES:
                grid = drawn_grid(kind, size, size, source)
                self.same(det(led(grid, other)), led(det(grid), other))


class Along(Told):
    def test_pairs_of_entries_and_minors_without_the_row(self):
        source = lot("along")
        for kind, size in product(KINDS, SIZES):
            grid = drawn_grid(kind, size, size, source)
            for index in range(size):
                expected = []
                for place in range(size):
                    minor = plain_det(kind, without(grid, index, place))
                    expected.append((grid[index, place], minor if (index + place) % 2 == 0 else -minor))
                self.tells(tuple(expected), det_along, grid=grid, index=index)
                total = nought(kind)
                for entry, side in expected:
                    total = total + entry * side
                self.same(total, det(grid))
        self.tells(((Rest(5, 6), Rest(1, 6)),), det_along, grid=Grid(((Rest(5, 6),),)), index=0)

    def test_the_index_comes_ahead_of_the_shape(self):
        for value in [*SPOILT, -1, 2, 3, 10 ** 40, Ratio(0)]:
            self.refuses(InvalidIndex(value), det_along, grid=one_grid("ratio", 2), index=value)
            self.refuses(InvalidIndex(value), det_along, grid=nought_grid("ratio", 2, 1), index=value)
        self.refuses(NotSquare((2, 3)), det_along, grid=nought_grid("ratio", 2, 3), index=1)
        self.refuses(NotSquare((3, 2)), det_along, grid=nought_grid("whole", 3, 2), index=0)
        for value in NO_GRIDS:
            self.refuses(NotAGrid(value), det_along, grid=value, index=None)


class Walks(Told):
    def test_each_grid_of_the_walk(self):
        source = lot("walks")
        for kind, size in product(KINDS, (1, 2, 3, 4, 8)):
            if size == 8 and kind.startswith("poly"):
                continue
            grid = drawn_grid(kind, size, size, source)
            walk = det_walk(grid)
            self.tells(walk, det_walk, grid=grid)
            self.same([type(walk), len(walk), walk[0]], [tuple, size, grid])
            for before, found in zip(walk, walk[1:]):
                rows = [[nought(kind)] * size for _ in range(size)]
                for i in range(size):
                    for j in range(i + 1, size):
                        rows[i][j] = before[i, j]
                        rows[i][i] = rows[i][i] - before[j, j]
                self.same(found, Grid(tuple(map(tuple, rows))) * grid)
            corner = walk[-1][0, 0]
            self.same(-corner if size % 2 == 0 else corner, det(grid))


class Tables(Told):
    def test_their_entries_are_minors(self):
        source = lot("tables")
        for kind, size in product(("whole", *FIELDS), (1, 2, 3, 5)):
            grid = drawn_turning(kind, size, source).turned
            leading = [plain_minor(grid, range(k), range(k)) for k in range(1, size)]
            if not all(leading):
                continue
            tables = det_tables(grid)
            self.tells(tables, det_tables, grid=grid)
            self.same([type(tables), len(tables), tables[0]], [tuple, size, grid])
            for k, table in enumerate(tables):
                self.same([table.shape, table.kind], [(size - k, size - k), kind])
                for i, j in product(range(k, size), range(k, size)):
                    expected = plain_minor(grid, [*range(k), i], [*range(k), j])
                    self.same(table[i - k, j - k], expected)

    def test_quotients_without_rests(self):
        source = lot("quotients")
        tried = 0
        for kind in ("whole", "ratio", "rest 97"):
            for _ in range(30):
                grid = drawn_grid(kind, 4, 4, source)
                if all(plain_minor(grid, range(k), range(k)) for k in (1, 2, 3)):
                    tables = det_tables(grid)
                    for k in (2, 3):
                        before, head = tables[k - 2][0, 0], tables[k - 1]
                        for i, j in product(range(4 - k), range(4 - k)):
                            products = head[0, 0] * head[i + 1, j + 1] - head[i + 1, 0] * head[0, j + 1]
                            self.same(tables[k][i, j] * before, products)
                    self.same(tables[3][0, 0], det(grid))
                    tried += 1
        self.assertGreater(tried, 30)

    def test_the_first_size_whose_leading_minor_is_nought(self):
        for kind in ("whole", *FIELDS):
            self.refuses(NoTriangles(1), det_tables, grid=nought_grid(kind, 2, 2))
            self.refuses(NoTriangles(1), det_tables, grid=Grid(((nought(kind), 1), (1, 0))))
            self.refuses(NoTriangles(2), det_tables, grid=Grid(((one(kind), 1, 0), (1, 1, 1), (0, 1, 1))))
            blocks = [[number_of(kind, int(i == j or (i, j) == (0, 7))) for j in range(8)] for i in range(8)]
            for size in range(1, 8):
                rows = [list(row) for row in blocks]
                rows[size - 1][size - 1] = nought(kind)
                self.refuses(NoTriangles(size), det_tables, grid=Grid(tuple(map(tuple, rows))))
            blocks[7][7] = nought(kind)
            self.same(len(det_tables(Grid(tuple(map(tuple, blocks))))), 8)
            self.tells((nought_grid(kind, 1, 1),), det_tables, grid=nought_grid(kind, 1, 1))

    def test_kinds_come_ahead_of_shapes(self):
        for kind in KINDS:
            if kind not in ("whole", *FIELDS):
                for shape in ((1, 1), (2, 3), (3, 3)):
                    self.refuses(NotAField(kind), det_tables, grid=nought_grid(kind, *shape))
            else:
                self.refuses(NotSquare((2, 3)), det_tables, grid=nought_grid(kind, 2, 3))


class Bounds(Told):
    def test_the_product_of_the_sums_of_sizes(self):
        source = lot("bounds")
        for size in (1, 2, 3, 8):
            for _ in range(5):
                grid = drawn_grid("whole", size, size, source)
                bound = prod(sum(abs(entry) for entry in row) for row in grid.rows)
                self.tells(bound, det_bound, grid=grid)
                self.assertLessEqual(abs(det(grid)), bound)
        self.tells(0, det_bound, grid=nought_grid("whole", 3, 3))
        self.tells(3 * 7, det_bound, grid=Grid(((-1, 2), (3, -4))))

    def test_rests_by_the_first_primes(self):
        source = lot("rests")
        for size in (1, 2, 3, 8):
            grid = drawn_grid("whole", size, size, source)
            pairs = det_rests(grid)
            self.tells(pairs, det_rests, grid=grid)
            primes = [prime for prime, _ in pairs]
            self.same(primes, PRIMES[:len(primes)])
            self.assertGreater(prod(primes), 2 * det_bound(grid))
            if len(primes) > 1:
                self.assertLessEqual(prod(primes[:-1]), 2 * det_bound(grid))
            for prime, number in pairs:
                self.same(number, det(led(grid, f"rest {prime}")).number)
            if len(pairs) <= 60:
                self.same(from_rests(pairs, det_bound(grid)), det(grid))
        for entry in range(-300, 301):
            primes = next(PRIMES[:many] for many in range(1, 9) if prod(PRIMES[:many]) > 2 * abs(entry))
            self.tells(tuple((prime, entry % prime) for prime in primes), det_rests, grid=Grid(((entry,),)))
        self.tells(((2, 0),), det_rests, grid=nought_grid("whole", 2, 2))
        self.tells(((2, 1), (3, 2)), det_rests, grid=Grid(((-1,),)))
        self.tells(((2, 1), (3, 0), (5, 3)), det_rests, grid=Grid(((3,),)))

    def test_great_entries(self):
        grid = Grid(((10 ** 40, 7), (3, -(10 ** 40))))
        pairs = det_rests(grid)
        self.same(from_rests(pairs, det_bound(grid)), det(grid))
        self.same(det(grid), -(10 ** 80) - 21)
        grid = (Grid(((10 ** 59, 1), (3, 4))) ** 64)
        pairs = det_rests(grid)
        self.same([prime for prime, _ in pairs[:168]], PRIMES)
        self.assertGreater(prod(prime for prime, _ in pairs), 2 * det_bound(grid))
        self.same(all(det(grid) % prime == number for prime, number in pairs), True)

    def test_kinds_come_ahead_of_shapes(self):
        for call in (det_bound, det_rests):
            for kind in KINDS:
                if kind != "whole":
                    self.refuses(NotWhole(kind), call, grid=nought_grid(kind, 2, 2))
                    self.refuses(NotWhole(kind), call, grid=nought_grid(kind, 2, 3))
            self.refuses(NotSquare((2, 1)), call, grid=nought_grid("whole", 2, 1))


class FromRests(Told):
    def test_each_number_within_the_bound(self):
        for primes in ((2,), (5,), (2, 3), (3, 7, 2), (997, 2)):
            together = prod(primes)
            for bound in {0, 1, (together - 1) // 4, (together - 1) // 2}:
                if together > 2 * bound:
                    for number in range(-together // 2, together):
                        pairs = tuple((prime, number % prime) for prime in primes)
                        inside = [k for k in range(-bound, bound + 1) if (k - number) % together == 0]
                        if inside:
                            self.tells(inside[0], from_rests, pairs=pairs, bound=bound)
                        else:
                            self.refuses(Quarrels(), from_rests, pairs=pairs, bound=bound)

    def test_products_that_are_not_above_twice_the_bound(self):
        self.refuses(TooFew(2), from_rests, pairs=((2, 1),), bound=1)
        self.refuses(TooFew(6), from_rests, pairs=((2, 1), (3, 2)), bound=3)
        self.refuses(TooFew(30), from_rests, pairs=((5, 1), (2, 1), (3, 2)), bound=10 ** 50)
        self.tells(-1, from_rests, pairs=((2, 1), (3, 2)), bound=2)
        self.refuses(Quarrels(), from_rests, pairs=((2, 1), (3, 0)), bound=2)
        self.refuses(Quarrels(), from_rests, pairs=((2, 1),), bound=0)

    def test_sixty_primes(self):
        bound = (prod(PRIMES[:60]) - 1) // 2
        for number in (-bound, bound, 0, -1, 12345678901234567890):
            pairs = tuple((prime, number % prime) for prime in PRIMES[:60])
            self.tells(number, from_rests, pairs=pairs, bound=bound)
        more = tuple((prime, 0) for prime in PRIMES)
        self.refuses(InvalidPairs(60), from_rests, pairs=more[:61], bound=1)
        self.refuses(InvalidPairs(60), from_rests, pairs=(*more[:60], None), bound=None)
        self.refuses(InvalidPairs(59), from_rests, pairs=(*more[:59], (997, 997), (991, 0)), bound=1)

    def test_pairs_that_are_wrong(self):
        told = (
            (None, None), ((), None), ([(2, 1)], None), ((2, 1), 0), (((2, 1), 3), 1), (((2,),), 0), (((2, 1, 0),), 0),
            (([2, 1],), 0), (((1, 0),), 0), (((4, 0),), 0), (((0, 0),), 0), (((-2, 0),), 0), (((2, 2),), 0), (((2, -1),), 0),
            (((3, True),), 0), (((True, 0),), 0), (((2, None),), 0), (((1009, 1),), 0), (((2, 1), (2, 1)), 1),
            (((2, 1), (3, 1), (2, 0)), 2), (((5, 4), (3, 3)), 1), (((3, Rest(1, 3)),), 0), (((Ratio(3), 1),), 0), ((None,), 0),
            (((997, 996), (999, 1)), 1), (((10 ** 50, 0),), 0), (((991 * 991, 0),), 0),
        )
        for pairs, index in told:
            self.refuses(InvalidPairs(index), from_rests, pairs=pairs, bound=0)
            self.refuses(InvalidPairs(index), from_rests, pairs=pairs, bound=None)
        for value in [*SPOILT, -1, -(10 ** 30), Ratio(1), Rest(1, 2)]:
            self.refuses(InvalidNumber(value), from_rests, pairs=((2, 1),), bound=value)
        self.tells(498, from_rests, pairs=((997, 498),), bound=498)


class Refusals(Told):
    def test_no_grids_and_no_squares(self):
        for call in (det, det_by_orders, det_walk, det_tables, det_bound, det_rests):
            for value in NO_GRIDS:
                self.refuses(NotAGrid(value), call, grid=value)
        for call in (det, det_by_orders, det_walk):
            for kind, shape in product(KINDS, ((1, 2), (2, 1), (8, 7))):
                self.refuses(NotSquare(shape), call, grid=nought_grid(kind, *shape))


class Polys(Told):
    def test_polys_with_any_lead(self):
        grid = Grid(((Poly("whole", (0, 2)), Poly("whole", (1, 3))), (Poly("whole", (5,)), Poly("whole", (0, 0, 7)))))
        self.tells(Poly("whole", (-5, -15, 0, 14)), det, grid=grid)
