"""What functions of several modules tell of one grid, each in its own way, must be the same."""

from itertools import product

from drawn import FIELDS, drawn_column, drawn_grid, drawn_of_rank, drawn_whole, drawn_whole_of_rank, lot
from gridwright.blocks import below, beside
from gridwright.columns import Column, dot
from gridwright.cores import core_numbers
from gridwright.dets import det, det_along, det_by_orders, det_rests, det_tables, det_walk, from_rests, det_bound
from gridwright.errors import NoTriangles
from gridwright.followers import core_polys
from gridwright.grids import Grid, one_grid, order_sign, trace
from gridwright.groups import Group
from gridwright.halves import inner_inverse, lower_upper, ordered_triangles
from gridwright.kinds import nought, number_of, one
from gridwright.lattices import common_minor, filled, lattice_index, member_by, plain_base
from gridwright.leading import led
from gridwright.letters import diagonal_sums, own_poly
from gridwright.lifting import lifted_inverse, parted
from gridwright.minors import leading_minors, minor_rank, minors
from gridwright.polys import Poly
from gridwright.ratios import Ratio
from gridwright.resultants import resultant, table_of
from gridwright.restsolving import first_rest_solution, rest_cores, rest_solutions
from gridwright.rounds import least_poly
from gridwright.sides import cramer, inverse, is_turning
from gridwright.singles import roots_of
from gridwright.solving import nought_base, solution, solutions_number, solve_grid
from gridwright.spans import bar_base, base_of
from gridwright.stairs import rank, rank_parts, row_turning, stair_form
from gridwright.stretches import ratio_roots
from gridwright.wholesolving import whole_noughts, whole_solution
from gridwright.wholestairs import whole_rank, whole_stair
from samples import total_product
from support import Told

PRIMES = (2, 3, 5, 7, 97)


def whole_squares(name):
    source = lot(name)
    for size in (1, 2, 3, 4):
        for _ in range(4):
            yield drawn_whole(size, size, source, 5)
        yield drawn_whole_of_rank(size, size, size - 1, source)


def whole_grids(name):
    source = lot(name)
    for height, width in ((1, 1), (1, 4), (3, 2), (3, 3), (5, 4), (8, 8)):
        for wanted in range(min(height, width, 4) + 1):
            yield drawn_whole_of_rank(height, width, wanted, source)


class Determinants(Told):
    def test_by_all_ways(self):
        for grid in whole_squares("all ways"):
            size = len(grid)
            found = det(grid)
            total = 1
            for core in core_numbers(grid):
                total *= core
            told = [det_by_orders(grid), sum(a * b for a, b in det_along(grid, size - 1)), minors(grid, size)[0][0],
                    det_walk(grid)[-1][0, 0] * (-1 if size % 2 == 0 else 1), from_rests(det_rests(grid), det_bound(grid)),
                    leading_minors(grid)[-1], diagonal_sums(grid)[-1], own_poly(grid).at(0) * (-1 if size % 2 else 1)]
            self.same(told, [found] * len(told))
            self.same(abs(found), total if len(core_numbers(grid)) == size else 0)
            self.same(abs(found), common_minor(grid, size))
            self.same(lattice_index(grid, one_grid("whole", size)), abs(found) if found else None)
            self.same(Group(grid).number, abs(found) if found else None)
            ends = 1
            for k, row in enumerate(whole_stair(grid).rows):
                ends *= row[k]
            self.same(ends, abs(found))
            for modulus in (6, 97, 10 ** 6):
                self.same(det(led(grid, f"rest {modulus}")), number_of(f"rest {modulus}", found))
            self.same(det(led(grid, "ratio")), Ratio(found))
            self.same(is_turning(grid), found in (1, -1))

    def test_over_fields(self):
        source = lot("over fields")
        for kind, size in product(FIELDS, (1, 2, 4)):
            for grid in (drawn_grid(kind, size, size, source), drawn_of_rank(kind, size, size, size - 1, source)):
                found = det(grid)
                order, _, upper = ordered_triangles(grid)
                ends = one(kind)
                for k in range(size):
                    ends = ends * upper[k, k]
                self.same(ends * order_sign(order), found)
                own = total_product(core_polys(grid), kind)
                self.same([own, own.at(0) * (-1 if size % 2 else 1), own.coefficients[size - 1]], [own_poly(grid), found, -trace(grid)])
                self.same(bool(found), rank(grid) == size)
                try:
                    _, upper = lower_upper(grid)
                    self.same([table[0, 0] for table in det_tables(grid)], list(leading_minors(grid)))
                    if size > 1:
                        self.same(upper[0, 0] * upper[1, 1], leading_minors(grid)[1])
                except NoTriangles as error:
                    self.assertRaises(NoTriangles, det_tables, grid)
                    self.same(leading_minors(grid)[error.given - 1], nought(kind))

    def test_resultants(self):
        source = lot("resultants")
        for kind in ("whole", *FIELDS):
            poly = Poly(kind, (*[drawn_grid(kind, 1, 1, source)[0, 0] for _ in range(3)], 1))
            other = Poly(kind, (*[drawn_grid(kind, 1, 1, source)[0, 0] for _ in range(2)], 1))
            self.same(det(table_of(poly, other)), resultant(poly, other))


class Ranks(Told):
    def test_of_whole_grids(self):
        for grid in whole_grids("ranks"):
            over_ratios = led(grid, "ratio")
            found = rank(over_ratios)
            told = [whole_rank(grid), len(plain_base(grid)), len(core_numbers(grid)), len(filled(grid)),
                    grid.shape[1] - len(whole_noughts(grid)), grid.shape[1] - len(nought_base(over_ratios)), minor_rank(grid),
                    rank(over_ratios.turned), grid.shape[1] - Group(grid).sizes.count(0)]
            self.same(told, [found] * len(told))
            for prime in PRIMES:
                # By a prime just the cores that it does not divide are left.
                by_prime = led(grid, f"rest {prime}")
                left = len([core for core in core_numbers(grid) if core % prime])
                self.same([rank(by_prime), rest_cores(by_prime).count(1)], [left, left])

    def test_noughts_by_ratios(self):
        for grid in whole_grids("noughts by ratios"):
            columns = tuple(led(column, "ratio") for column in whole_noughts(grid))
            self.same(base_of(columns) if columns else (), nought_base(led(grid, "ratio")))

    def test_over_fields(self):
        source = lot("ranks over fields")
        for kind, wanted in product(FIELDS, (1, 2, 3)):
            grid = drawn_of_rank(kind, 4, 5, wanted, source)
            columns, rows = rank_parts(grid)
            self.same([columns.shape[1], len(rows), minor_rank(grid), rank(inner_inverse(grid) * grid)], [wanted] * 4)
            self.same(bar_base(grid.columns), nought_base(grid.turned))
            self.same(solve_grid(columns, grid), rows)
            self.same(stair_form(below(grid, grid)).rows[:4], stair_form(grid).rows)
            self.same(rank(beside(grid, grid * drawn_grid(kind, 5, 3, source))), wanted)


class Equations(Told):
    def test_whole_ones_with_ratios_and_rests(self):
        source = lot("equations")
        for grid in whole_grids("equations"):
            height, width = grid.shape
            for column in (grid * Column(tuple(source.randint(-3, 3) for _ in range(width))),
                           Column(tuple(source.randint(-3, 3) for _ in range(height)))):
                found = whole_solution(grid, column)
                by_ratios = solution(led(grid, "ratio"), led(column, "ratio"))
                exponent = core_numbers(grid)[-1] if core_numbers(grid) else 1
                # The last core alone tells by which powers of primes there may be none.
                kind = f"rest {exponent}"
                by_rests = exponent == 1 or exponent > 10 ** 6 or first_rest_solution(led(grid, kind), led(column, kind)) is not None
                if found is not None:
                    self.same([by_ratios is not None, by_rests], [True, True])
                    self.assertIsNotNone(member_by(grid.turned, column))
                for modulus in (4, 6, 97):
                    kind = f"rest {modulus}"
                    many = rest_solutions(led(grid, kind), led(column, kind))
                    self.same(many > 0 or found is None, True)
                    if modulus == 97:
                        self.same(many, solutions_number(led(grid, kind), led(column, kind)))

    def test_of_square_grids(self):
        source = lot("square equations")
        for kind in FIELDS:
            grid, column = drawn_of_rank(kind, 4, 4, 4, source), drawn_column(kind, 4, source)
            number, made = cramer(grid, column)
            found = solution(grid, column)
            self.same([found * number, inverse(grid) * column, (grid ** -1) * column], [made, found, found])
            self.same(solve_grid(grid, one_grid(kind, 4)), inverse(grid))
            self.same(row_turning(one_grid(kind, 4), grid), grid)

    def test_inverses_lifted(self):
        for grid in whole_squares("lifted"):
            for prime in (2, 3, 97):
                if det(grid) % prime:
                    power = {2: 19, 3: 12, 97: 3}[prime]
                    by_power = led(grid, f"rest {prime ** power}")
                    self.same(led(lifted_inverse(grid, prime, power), by_power.kind), inverse(by_power))
            for part in parted(led(grid, "rest 360")):
                self.same(is_turning(part), rest_cores(part) == (1,) * len(grid))

    def test_bars_and_products(self):
        source = lot("bars")
        for kind in FIELDS:
            grid = drawn_of_rank(kind, 4, 3, 2, source)
            for against, column in product(nought_base(grid.turned), grid.columns):
                self.same(dot(against, column), nought(kind))


class Roots(Told):
    def test_of_own_polys(self):
        source = lot("roots of own polys")
        for prime in (2, 5, 97):
            grid = drawn_grid(f"rest {prime}", 4, 4, source)
            for number in range(prime):
                shifted = grid - one_grid(grid.kind, 4) * number
                self.same(number in roots_of(own_poly(grid)), rank(shifted) < 4)
                self.same(number in roots_of(least_poly(grid)), rank(shifted) < 4)
        numbers = (Ratio(1, 2), Ratio(-3), Ratio(1, 2), Ratio(0))
        grid = Grid(tuple(tuple(numbers[i] if i == j else Ratio(int(i < j)) for j in range(4)) for i in range(4)))
        self.same(ratio_roots(own_poly(grid)), ((Ratio(-3), 1), (Ratio(0), 1), (Ratio(1, 2), 2)))
