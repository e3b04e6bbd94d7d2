from itertools import combinations, product

from drawn import FIELDS, KINDS, drawn_column, drawn_grid, drawn_number, drawn_turning, lot, plain_det, plain_minor, plain_one
from gridwright.columns import Column
from gridwright.dets import det
from gridwright.errors import InvalidShape, NotAColumn, NotAField, NotAGrid, NotAPoly, NotSquare, Unlike
from gridwright.grids import Grid, nought_grid, one_grid, trace
from gridwright.kinds import nought, one
from gridwright.leading import led
from gridwright.letters import diagonal_sums, letter_grid, own_poly, poly_at, poly_on
from gridwright.polys import Poly
from gridwright.ratios import Ratio
from support import Told
from test_columns import NO_COLUMNS
from test_dividing import NO_POLYS
from test_grids import NO_GRIDS

LETTERED = ("whole", *FIELDS)
NOT_LETTERED = ("rest 4", "rest 6", "poly whole", "poly ratio", "poly rest 3")


def drawn_poly(kind, degree, source):
    return Poly(kind, tuple(drawn_number(kind, source) for _ in range(degree + 1)))


def plain_at(poly, grid):
    """The sum of the coefficients times the powers."""
    total, power = grid - grid, plain_one(grid.kind, len(grid))
    for coefficient in poly.coefficients:
        total = total + power * coefficient
        power = power * grid
    return total


class LetterGrids(Told):
    def test_x_less_the_entries(self):
        source = lot("letter grids")
        for kind, size in product(LETTERED, (1, 2, 5, 8)):
            grid = drawn_grid(kind, size, size, source)
            found = letter_grid(grid)
            self.tells(found, letter_grid, grid=grid)
            self.same([found.kind, found.shape], [f"poly {kind}", (size, size)])
            x = Poly(kind, (0, 1))
            for i, j in product(range(size), repeat=2):
                self.same(found[i, j], (x if i == j else x - x) - grid[i, j])

    def test_of_noughts(self):
        self.tells(one_grid("poly whole", 3) * Poly("whole", (0, 1)), letter_grid, grid=nought_grid("whole", 3, 3))


class OwnPolys(Told):
    def test_the_determinant_of_the_letter_grid(self):
        source = lot("own polys")
        for kind, size in product(LETTERED, (1, 2, 3, 4)):
            for _ in range(3):
                grid = drawn_grid(kind, size, size, source)
                self.tells(plain_det(f"poly {kind}", letter_grid(grid).rows), own_poly, grid=grid)

    def test_of_all_sizes(self):
        source = lot("great own polys")
        for kind, size in product(LETTERED, (6, 7, 8)):
            grid = drawn_grid(kind, size, size, source)
            found = own_poly(grid)
            self.same([found.kind, found.degree, found.lead], [kind, size, one(kind)])
            self.same(found.coefficients[0], det(-grid))
            self.same(found.coefficients[size - 1], -trace(grid))
            self.same(poly_at(found, grid), nought_grid(kind, size, size))

    def test_turning_changes_nothing(self):
        source = lot("turned own polys")
        for kind, size in product(LETTERED, (2, 4, 6)):
            grid, turning = drawn_grid(kind, size, size, source), drawn_turning(kind, size, source)
            self.same(own_poly(turning * grid * turning ** -1), own_poly(grid))
            self.same(own_poly(grid.turned), own_poly(grid))

    def test_the_edges(self):
        for kind in LETTERED:
            self.tells(Poly(kind, (0, 0, 0, 1)), own_poly, grid=nought_grid(kind, 3, 3))
            self.tells(Poly(kind, (-1, 1)) ** 8, own_poly, grid=one_grid(kind, 8))
            self.tells(Poly(kind, (-5, 1)), own_poly, grid=led(Grid(((5,),)), kind))
        far = 10 ** 30
        self.tells(Poly("whole", (-far * far, 0, 1)), own_poly, grid=Grid(((0, far), (far, 0))))

    def test_led_by_a_modulus(self):
        source = lot("led own polys")
        for _ in range(5):
            grid = drawn_grid("whole", 5, 5, source)
            self.same(led(own_poly(grid), "poly rest 97"), own_poly(led(grid, "rest 97")))


class DiagonalSums(Told):
    def test_sums_of_minors_with_the_same_rows_and_places(self):
        source = lot("diagonal sums")
        for kind, size in product(KINDS, (1, 2, 3, 4)):
            grid = drawn_grid(kind, size, size, source)
            expected = []
            for many in range(1, size + 1):
                total = nought(kind)
                for rows in combinations(range(size), many):
                    total = total + plain_minor(grid, rows, rows)
                expected.append(total)
            self.tells(tuple(expected), diagonal_sums, grid=grid)

    def test_the_own_poly_by_them(self):
        source = lot("own polys by sums")
        for kind, size in product(LETTERED, (1, 3, 8)):
            grid = drawn_grid(kind, size, size, source)
            sums = diagonal_sums(grid)
            self.same([sums[0], sums[-1], len(sums)], [trace(grid), det(grid), size])
            for many, total in enumerate(sums, 1):
                self.same(own_poly(grid).coefficients[size - many], -total if many % 2 else total)

    def test_of_all_kinds_in_great_sizes(self):
        source = lot("great diagonal sums")
        for kind in KINDS:
            grid = drawn_grid(kind, 6, 6, source)
            self.same([diagonal_sums(grid)[0], diagonal_sums(grid)[-1]], [trace(grid), det(grid)])


class PolysAtGrids(Told):
    def test_by_powers(self):
        source = lot("polys at grids")
        for kind, size, degree in product(LETTERED, (1, 2, 4), (-1, 0, 1, 4)):
            grid, poly = drawn_grid(kind, size, size, source), drawn_poly(kind, degree, source)
            self.tells(plain_at(poly, grid), poly_at, poly=poly, grid=grid)
            column = drawn_column(kind, size, source)
            self.tells(plain_at(poly, grid) * column, poly_on, poly=poly, grid=grid, column=column)

    def test_sums_and_products(self):
        source = lot("sums of polys")
        for kind, size in product(LETTERED, (2, 8)):
            grid, poly, other = drawn_grid(kind, size, size, source), drawn_poly(kind, 3, source), drawn_poly(kind, 2, source)
            self.same(poly_at(poly + other, grid), poly_at(poly, grid) + poly_at(other, grid))
            self.same(poly_at(poly * other, grid), poly_at(poly, grid) * poly_at(other, grid))

    def test_numbers_and_x(self):
        source = lot("numbers and x")
        for kind in LETTERED:
            grid, column = drawn_grid(kind, 3, 3, source), drawn_column(kind, 3, source)
            self.tells(nought_grid(kind, 3, 3), poly_at, poly=Poly(kind, ()), grid=grid)
            self.tells(one_grid(kind, 3) * 5, poly_at, poly=Poly(kind, (5,)), grid=grid)
            self.tells(grid, poly_at, poly=Poly(kind, (0, 1)), grid=grid)
            self.tells(column * 0, poly_on, poly=Poly(kind, ()), grid=grid, column=column)
            self.tells(grid * column, poly_on, poly=Poly(kind, (0, 1)), grid=grid, column=column)


class Refusals(Told):
    def test_in_their_order(self):
        ratio, wide = Poly("ratio", (1, 1)), nought_grid("ratio", 2, 3)
        for value in NO_GRIDS:
            for call in (letter_grid, own_poly, diagonal_sums):
                self.refuses(NotAGrid(value), call, grid=value)
            self.refuses(NotAGrid(value), poly_at, poly=Poly("whole", ()), grid=value)
            self.refuses(NotAGrid(value), poly_on, poly=Poly("whole", ()), grid=value, column=None)
        for value in NO_POLYS:
            self.refuses(NotAPoly(value), poly_at, poly=value, grid=None)
            self.refuses(NotAPoly(value), poly_on, poly=value, grid=None, column=None)
        for value in NO_COLUMNS:
            self.refuses(NotAColumn(value), poly_on, poly=ratio, grid=nought_grid("whole", 1, 2), column=value)
        for kind in NOT_LETTERED:
            for call in (letter_grid, own_poly):
                self.refuses(NotAField(kind), call, grid=nought_grid(kind, 2, 3))
            self.refuses(Unlike("ratio", kind), poly_at, poly=ratio, grid=nought_grid(kind, 2, 3))
            self.refuses(Unlike("ratio", kind), poly_on, poly=ratio, grid=nought_grid(kind, 2, 3), column=Column((1, 2)))
            self.refuses(Unlike("ratio", kind), poly_on, poly=ratio, grid=wide, column=led(Column((1, 2)), kind))
        for kind in LETTERED:
            for call in (letter_grid, own_poly):
                self.refuses(NotSquare((2, 3)), call, grid=nought_grid(kind, 2, 3))
            self.refuses(NotSquare((3, 2)), poly_at, poly=Poly(kind, (1,)), grid=nought_grid(kind, 3, 2))
            self.refuses(NotSquare((3, 2)), poly_on, poly=Poly(kind, (1,)), grid=nought_grid(kind, 3, 2), column=led(Column((1, 2)), kind))
        for kind in KINDS:
            self.refuses(NotSquare((1, 8)), diagonal_sums, grid=nought_grid(kind, 1, 8))
        # Also where nothing has to be multiplied.
        self.refuses(InvalidShape((2, 2), (3, 1)), poly_on, poly=Poly("ratio", ()), grid=nought_grid("ratio", 2, 2),
                     column=Column((Ratio(1), 2, 3)))
        self.refuses(InvalidShape((2, 2), (3, 1)), poly_on, poly=ratio, grid=nought_grid("ratio", 2, 2), column=Column((Ratio(1), 2, 3)))
