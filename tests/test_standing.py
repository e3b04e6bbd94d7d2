from itertools import product

from drawn import (
    FIELDS, NO_FIELDS, all_columns, all_grids, chains_of_polys, drawn_grid, drawn_turning, lot, plain_blocks, plain_det,
    plain_one, span_of, turned_around,
)
from gridwright.dividing import common
from gridwright.errors import InvalidNumber, NotAField, NotAGrid, NotRests, NotSquare
from gridwright.grids import Grid, diagonal_grid, nought_grid, one_grid
from gridwright.kinds import number_of
from gridwright.leading import led
from gridwright.letters import own_poly
from gridwright.polys import Poly
from gridwright.ratios import Ratio
from gridwright.rests import Rest
from gridwright.rooting import roots_over_field
from gridwright.rounds import least_poly
from gridwright.sides import is_turning
from gridwright.spans import base_of
from gridwright.standing import diagonal_turning, standing_base, standing_numbers
from gridwright.stretches import ratio_roots
from samples import total_product
from support import SPOILT, Told
from test_grids import NO_GRIDS

SMALL = ("ratio", "rest 2", "rest 3", "rest 97")


def plain_standing(grid, numbers):
    """Those of some numbers at which the grid less the number times the one grid has the determinant nought."""
    return tuple(c for c in numbers if not plain_det(grid.kind, (grid - plain_one(grid.kind, len(grid)) * c).rows))


class Numbers(Told):
    def test_by_small_primes_all_are_tried(self):
        for prime, size in ((2, 1), (2, 2), (3, 2), (2, 3)):
            for grid in list(all_grids(prime, size, size))[::5 if size == 3 else 1]:
                self.tells(plain_standing(grid, [Rest(c, prime) for c in range(prime)]), standing_numbers, grid=grid)

    def test_by_greater_primes(self):
        source = lot("standing by primes")
        for prime, size in product((5, 7, 97), (1, 2, 3)):
            grid = drawn_grid(f"rest {prime}", size, size, source)
            self.tells(plain_standing(grid, [Rest(c, prime) for c in range(prime)]), standing_numbers, grid=grid)

    def test_ratios_by_size(self):
        source = lot("standing ratios")
        told = (Ratio(-7, 3), Ratio(-2), Ratio(-1, 2), Ratio(0), Ratio(1, 10 ** 30), Ratio(1, 3), Ratio(1, 2), Ratio(5))
        for many in (1, 2, 3, 8):
            numbers = told[:many]
            grid = turned_around(diagonal_grid("ratio", numbers[::-1]), source)
            self.tells(numbers, standing_numbers, grid=grid)
        self.tells(told[:3], standing_numbers, grid=turned_around(diagonal_grid("ratio", told[:3] * 2), source))

    def test_numbers_of_which_no_divisors_can_be_gone_through(self):
        far = 10 ** 59 + 33
        grid = turned_around(diagonal_grid("ratio", (far, -far, Ratio(far, far - 1), 3)), lot("far"))
        self.tells((Ratio(-far), Ratio(far, far - 1), Ratio(3), Ratio(far)), standing_numbers, grid=grid)
        wide = led(Grid(((far, 1), (1, far))), "ratio")
        self.tells((Ratio(far - 1), Ratio(far + 1)), standing_numbers, grid=wide)
        self.tells((), standing_numbers, grid=led(Grid(((far, 2), (1, far))), "ratio"))

    def test_none_one_and_as_many_as_rows(self):
        for kind in SMALL:
            self.tells((number_of(kind, 0),), standing_numbers, grid=nought_grid(kind, 8, 8))
            self.tells((number_of(kind, 1),), standing_numbers, grid=one_grid(kind, 8))
        self.tells((), standing_numbers, grid=led(Grid(((0, -1), (1, 0))), "ratio"))
        self.tells((), standing_numbers, grid=led(Grid(((0, -1), (1, -1))), "rest 2"))
        self.tells((Rest(5, 13), Rest(8, 13)), standing_numbers, grid=led(Grid(((0, -1), (1, 0))), "rest 13"))
        self.tells(tuple(Rest(k, 7) for k in range(7)), standing_numbers, grid=diagonal_grid("rest 7", (6, 5, 4, 3, 2, 1, 0)))
        self.tells((Ratio(2),), standing_numbers, grid=led(Grid(((2, 1), (0, 2))), "ratio"))

    def test_just_the_roots_of_the_own_poly(self):
        source = lot("own roots")
        for kind in SMALL:
            for size in (1, 2, 3, 5):
                for polys in list(chains_of_polys(kind, size))[::2]:
                    grid = turned_around(plain_blocks(polys), source)
                    found = standing_numbers(grid)
                    left = own_poly(grid)
                    for number in found:
                        self.assertFalse(left.at(number))
                        while not left.at(number):
                            left = left // Poly(kind, (-number, 1))
                    if kind == "ratio":
                        self.same(ratio_roots(left), ())
                        self.assertTrue(all(a.is_below(b) for a, b in zip(found, found[1:])))
                    else:
                        self.assertTrue(all(left.at(number) for number in range(int(kind[5:]))))
                        self.same([c.number for c in found], sorted(c.number for c in found))


class Roots(Told):
    def test_of_polys_by_great_primes(self):
        source = lot("roots by great primes")
        for prime in (101, 103, 997, 999983):
            kind, x = f"rest {prime}", Poly(f"rest {prime}", (0, 1))
            for many in (0, 1, 2, 5, 8):
                numbers = sorted({source.randrange(prime) for _ in range(many)} | {0} if many > 1 else {prime - 1} if many else set())
                poly = total_product([(x - number) ** source.choice((1, 1, 2)) for number in numbers], kind)
                nonsquare = next(k for k in range(2, prime) if pow(k, (prime - 1) // 2, prime) == prime - 1)
                for other in (poly, poly * 5, poly * (x * x - nonsquare)):
                    self.same(roots_over_field(other), tuple(Rest(number, prime) for number in numbers))
        kind = "rest 101"
        self.same(roots_over_field(Poly(kind, (0, 1)) ** 60 * 0 + Poly(kind, (5,))), ())
        every = Poly(kind, (0,) * 101 + (1,)) - Poly(kind, (0, 1))
        self.same(roots_over_field(every), tuple(Rest(k, 101) for k in range(101)))

    def test_of_polys_over_ratios(self):
        source = lot("ratio roots")
        x = Poly("ratio", (0, 1))
        for _ in range(12):
            found = {Ratio(source.randint(-9, 9), source.randint(1, 9)).text for _ in range(source.randint(1, 4))}
            poly = total_product([(x - Ratio.read(text)) ** source.choice((1, 2)) for text in found], "ratio")
            poly = poly * source.choice((1, x * x + 1, x * x - 2, (x ** 3 - 2) * Ratio(3, 7), Ratio(-5, 2)))
            self.same(roots_over_field(poly), tuple(root for root, _ in ratio_roots(poly)))
        # By the first primes some of these have square parts, which they have not themselves.
        for poly in (x * x - 210 ** 2, x * (x - 30030), (x - 1) * (x - 1 - 510510), x ** 8 - 1, x * Ratio(1, 5), x - 0):
            self.same(roots_over_field(poly), tuple(root for root, _ in ratio_roots(poly)))
        self.same(roots_over_field(Poly("ratio", (7,))), ())
        self.same(roots_over_field(x * x - 10 ** 100), (Ratio(-(10 ** 50)), Ratio(10 ** 50)))
        self.same(roots_over_field(x * x - 10 ** 100 - 1), ())


class Bases(Told):
    def test_all_columns_that_become_so_many_times_as_great(self):
        source = lot("standing bases")
        for prime, size in ((2, 2), (2, 3), (3, 2)):
            for _ in range(8):
                grid = drawn_grid(f"rest {prime}", size, size, source)
                for number in range(prime):
                    base = standing_base(grid, number)
                    self.tells(base, standing_base, grid=grid, number=Rest(number, prime))
                    expected = {v.text for v in all_columns(prime, size) if grid * v == v * number}
                    zero = (grid.columns[0] * 0).text
                    self.same(span_of(base, prime) if base else {zero}, expected)
                    self.same(base_of(base) if base else (), base)

    def test_numbers_that_stand_and_others(self):
        for kind in FIELDS:
            self.tells((), standing_base, grid=one_grid(kind, 3), number=0)
            self.same(len(standing_base(one_grid(kind, 8), 1)), 8)
            self.same(standing_base(nought_grid(kind, 2, 2), number_of(kind, 0)), one_grid(kind, 2).columns)
            grid = led(Grid(((2, 1), (0, 2))), kind)
            self.same([column.text for column in standing_base(grid, 2)], [one_grid(kind, 2).columns[0].text])


class Diagonals(Told):
    def holds(self, grid):
        """That a turning grid is told exactly if the least poly is a product of unlike polys x - c."""
        poly = least_poly(grid)
        numbers = roots_over_field(poly)
        expected = len(numbers) == poly.degree
        self.same(diagonal_turning(grid) is not None, expected)
        if expected:
            columns = [c for c in numbers for _ in standing_base(grid, c)]
            for turning in (diagonal_turning(grid), diagonal_turning(grid=grid)):
                self.same([is_turning(turning), grid * turning], [True, turning * diagonal_grid(grid.kind, tuple(columns))])
        return expected

    def test_over_drawn_grids(self):
        for kind in FIELDS:
            source = lot(f"diagonals {kind}")
            for size in (1, 2, 3, 5):
                self.holds(drawn_grid(kind, size, size, source))
                for polys in list(chains_of_polys(kind, size))[::2]:
                    self.holds(turned_around(plain_blocks(polys), source))
            for numbers in ((3,), (0, 1), (1, 0, 1), (-1, 2, 0, 2, 5, 0, 1, 1)):
                self.same(self.holds(turned_around(diagonal_grid(kind, numbers), source)), True)

    def test_all_small_grids(self):
        for grid in [*all_grids(2, 2, 2), *list(all_grids(3, 2, 2))[::2], *list(all_grids(2, 3, 3))[::9]]:
            self.holds(grid)

    def test_alike_to_a_diagonal_grid_or_not(self):
        for kind in FIELDS:
            self.tells(None, diagonal_turning, grid=led(Grid(((2, 1), (0, 2))), kind))
            self.tells(one_grid(kind, 1), diagonal_turning, grid=one_grid(kind, 1) * 5)
            poly = common(least_poly(one_grid(kind, 8)), least_poly(one_grid(kind, 8)))
            self.same(poly, Poly(kind, (-1, 1)))
            self.same(self.holds(nought_grid(kind, 8, 8)), True)
        turning = drawn_turning("ratio", 2, lot("turning"))
        self.tells(None, diagonal_turning, grid=turning * led(Grid(((0, -1), (1, 0))), "ratio") * turning ** -1)


class Refusals(Told):
    def test_in_their_order(self):
        for call in (standing_numbers, diagonal_turning):
            for value in NO_GRIDS:
                self.refuses(NotAGrid(value), call, grid=value)
            for kind in NO_FIELDS:
                self.refuses(NotAField(kind), call, grid=nought_grid(kind, 2, 3))
            self.refuses(NotSquare((2, 3)), call, grid=nought_grid("ratio", 2, 3))
            self.refuses(NotSquare((3, 2)), call, grid=nought_grid("rest 101", 3, 2))
        for prime in (101, 999983):
            self.refuses(NotRests(f"rest {prime}"), standing_numbers, grid=one_grid(f"rest {prime}", 2))
            self.same(diagonal_turning(one_grid(f"rest {prime}", 2)) is None, False)
        for value in NO_GRIDS:
            self.refuses(NotAGrid(value), standing_base, grid=value, number=None)
        for value in [*SPOILT, Rest(1, 3), Poly("ratio", (1,))]:
            self.refuses(InvalidNumber(value), standing_base, grid=nought_grid("ratio", 2, 3), number=value)
        self.refuses(InvalidNumber(Ratio(1)), standing_base, grid=nought_grid("whole", 2, 3), number=Ratio(1))
        for kind in NO_FIELDS:
            self.refuses(NotAField(kind), standing_base, grid=nought_grid(kind, 2, 3), number=number_of(kind, 1))
        self.refuses(NotSquare((2, 3)), standing_base, grid=nought_grid("ratio", 2, 3), number=1)
