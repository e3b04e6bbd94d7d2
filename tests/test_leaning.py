from itertools import combinations, product

from drawn import drawn_column, drawn_grid, drawn_of_rank, lot, plain_det, plain_minor, plain_rank
from gridwright.blocks import beside
from gridwright.columns import Column, dot
from gridwright.errors import InvalidNumber, InvalidPoints, InvalidShape, NotAColumn, NotAGrid, NotOrdered, TooFew
from gridwright.grids import Grid, from_columns, is_even, nought_grid, one_grid
from gridwright.leading import led
from gridwright.leaning import (
    across, closest, distance, is_leaning, leaning_grid, length, mate, nearest, nearest_poly, product_grid, square_parts,
)
from gridwright.meeting import through
from gridwright.polys import Poly
from gridwright.ratios import Ratio
from gridwright.rests import Rest
from gridwright.sides import inverse, is_turning
from gridwright.solving import nought_base, solution
from gridwright.spans import bar_base, base_of
from gridwright.stairs import rank
from support import SPOILT, Told
from test_columns import NO_COLUMNS
from test_grids import NO_GRIDS

NO_ORDERED = ("rest 2", "rest 6", "rest 999983", "poly whole", "poly ratio", "poly rest 3")
GRIDS = (product_grid, across, leaning_grid, is_leaning, square_parts, mate)
PAIRS = (nearest, distance, closest)


def plain_length(column):
    return sum((entry * entry for entry in column.entries), Ratio(0))


def ratio_grids(name):
    """Grids of ratios of all ranks, and whole ones, as pairs of the grid that is given and of itself led to ratios."""
    source = lot(name)
    for height, width in ((1, 1), (1, 3), (3, 1), (2, 2), (3, 2), (2, 4), (4, 3), (3, 3)):
        for wanted in range(min(height, width) + 1):
            grid = drawn_of_rank("ratio", height, width, wanted, source)
            yield grid, grid
        rows = tuple(tuple(source.randint(-3, 3) for _ in range(width)) for _ in range(height))
        yield Grid(rows), led(Grid(rows), "ratio")


class Lengths(Told):
    def test_sums_of_squares(self):
        source = lot("lengths")
        for size in (1, 2, 3, 8):
            column = drawn_column("ratio", size, source)
            self.tells(plain_length(column), length, column=column)
        self.tells(Ratio(25), length, column=Column((3, -4)))
        self.tells(Ratio(0), length, column=Column((0,)))
        self.tells(Ratio(1, 2), length, column=Column((Ratio(1, 2), Ratio(-1, 2))))

    def test_product_grids(self):
        for given, grid in ratio_grids("product grids"):
            expected = Grid(tuple(tuple(dot(a, b) for b in grid.columns) for a in grid.columns))
            self.tells(expected, product_grid, grid=given)
            self.same(plain_rank(expected), rank(grid))

    def test_their_determinants(self):
        for _, grid in ratio_grids("determinants of product grids"):
            height, width = grid.shape
            found = plain_det("ratio", product_grid(grid).rows)
            if height >= width:
                minors = [plain_minor(grid, rows, range(width)) for rows in combinations(range(height), width)]
                self.same(found, sum((number * number for number in minors), Ratio(0)))
            self.same(bool(found), rank(grid) == width)
            total = Ratio(1)
            for column in square_parts(grid)[0].columns:
                total = total * length(column)
            self.same(found, total)


class Across(Told):
    def test_all_that_stand_square(self):
        for given, grid in ratio_grids("across"):
            base = across(grid)
            self.tells(base, across, grid=given)
            self.same(len(base), grid.shape[0] - rank(grid))
            for column, other in product(base, grid.columns):
                self.same(dot(column, other), Ratio(0))
            self.same(base, base_of(base) if base else ())
            self.same(base, bar_base(grid.columns))


class Nearest(Told):
    def test_differences_stand_square(self):
        source = lot("nearest")
        for given, grid in ratio_grids("nearest grids"):
            column = drawn_column("ratio", grid.shape[0], source)
            found = nearest(grid, column)
            self.tells(found, nearest, grid=given, column=column)
            for other in grid.columns:
                self.same(dot(column - found, other), Ratio(0))
            self.same(solution(grid, found) is None, False)
            self.tells(plain_length(column - found), distance, grid=given, column=column)
            for _ in range(3):
                other = grid * drawn_column("ratio", grid.shape[1], source)
                self.same(length(column - other), distance(grid, column) + length(found - other))

    def test_solutions_of_the_product_equation(self):
        source = lot("product equation")
        for given, grid in ratio_grids("product equations"):
            column = drawn_column("ratio", grid.shape[0], source)
            some = solution(product_grid(grid), grid.turned * column)
            self.same(grid * some, nearest(given, column))
            least = closest(grid, column)
            self.tells(least, closest, grid=given, column=column)
            self.same(grid * least, nearest(grid, column))
            for other in nought_base(grid):
                # What makes no difference stands square to the one of least length.
                self.same(dot(other, least), Ratio(0))
            self.same([least == some, length(least).is_below(length(some))], [True, False] if least == some else [False, True])

    def test_distances_by_determinants(self):
        source = lot("distances")
        for height, width in ((2, 1), (3, 1), (3, 2), (4, 3), (3, 3)):
            grid = drawn_of_rank("ratio", height, width, width, source)
            column = drawn_column("ratio", height, source)
            upper = plain_det("ratio", product_grid(beside(grid, from_columns((column,)))).rows)
            self.same(distance(grid, column) * plain_det("ratio", product_grid(grid).rows), upper)

    def test_the_edges(self):
        grid = Grid(((1, 0), (1, 1), (1, 2)))
        self.tells(led(Column((1, 2, 3)), "ratio"), nearest, grid=grid, column=Column((1, 2, 3)))
        self.tells(Ratio(0), distance, grid=grid, column=Column((1, 2, 3)))
        self.tells(led(Column((0, 0)), "ratio"), nearest, grid=nought_grid("whole", 2, 3), column=Column((5, 6)))
        self.tells(Ratio(61), distance, grid=nought_grid("ratio", 2, 3), column=Column((5, 6)))
        self.tells(led(Column((0, 0, 0)), "ratio"), closest, grid=nought_grid("ratio", 2, 3), column=Column((5, 6)))
        # Columns that are not free: of all x the one of least length.
        self.tells(led(Column((1, 1)), "ratio"), closest, grid=Grid(((1, 1), (1, 1))), column=Column((2, 2)))
        self.tells(Ratio(2), distance, grid=Grid(((1, 1), (1, 1))), column=Column((3, 1)))

    def test_whole_ones_stand_for_ratios_side_by_side(self):
        grid, column = Grid(((1, 2), (3, 4), (5, 6))), Column((1, 0, 2))
        for call in PAIRS:
            expected = call(led(grid, "ratio"), led(column, "ratio"))
            self.tells(expected, call, grid=grid, column=column)
            self.tells(expected, call, grid=led(grid, "ratio"), column=column)
            self.tells(expected, call, grid=grid, column=led(column, "ratio"))


class Leaning(Told):
    def test_leaning_grids(self):
        source = lot("leaning")
        for given, grid in ratio_grids("leaning grids"):
            found = leaning_grid(grid)
            self.tells(found, leaning_grid, grid=given)
            self.same([found * found, is_even(found)], [found, True])
            self.tells(True, is_leaning, grid=found)
            column = drawn_column("ratio", grid.shape[0], source)
            self.same(found * column, nearest(grid, column))
            self.same(sum((found[k, k] for k in range(len(found))), Ratio(0)), Ratio(rank(grid)))
            self.same(base_of(found.columns), base_of(grid.columns))

    def test_one_leaning_grid_for_each_span(self):
        source = lot("one for each")
        for _ in range(6):
            grid = drawn_grid("ratio", 3, 2, source)
            turning = drawn_of_rank("ratio", 2, 2, 2, source)
            self.same(leaning_grid(grid), leaning_grid(grid * turning))

    def test_is_leaning(self):
        for grid, expected in (
            (one_grid("whole", 8), True), (nought_grid("whole", 3, 3), True), (nought_grid("whole", 2, 3), False),
            (Grid(((1, 1), (0, 0))), False), (Grid(((2, 0), (0, 0))), False), (Grid(((0, 1), (1, 0))), False),
            (Grid(((Ratio(1, 2), Ratio(1, 2)), (Ratio(1, 2), Ratio(1, 2)))), True), (Grid(((1, 0), (0, 0))), True),
            (Grid(((1,), (0,))), False), (Grid(((1, 2, 3),)), False),
        ):
            self.tells(expected, is_leaning, grid=grid)


class SquareParts(Told):
    def test_by_their_words(self):
        for given, grid in ratio_grids("square parts"):
            squares, rows = square_parts(grid)
            self.tells((squares, rows), square_parts, grid=given)
            self.same([squares * rows, squares.shape, rows.shape], [grid, grid.shape, (grid.shape[1],) * 2])
            for one, other in combinations(squares.columns, 2):
                self.same(dot(one, other), Ratio(0))
            for j, row in enumerate(rows.rows):
                self.same([row[:j], row[j]], [(Ratio(0),) * j, Ratio(1)])
                if not squares.columns[j]:
                    self.same(row[j + 1:], (Ratio(0),) * (len(rows) - j - 1))

    def test_nought_columns(self):
        squares, rows = square_parts(Grid(((0, 1, 2), (0, 1, 2))))
        self.same([squares.text, rows.text], ["grid ratio: 0/1 1/1 0/1; 0/1 1/1 0/1", "grid ratio: 1/1 0/1 0/1; 0/1 1/1 2/1; 0/1 0/1 1/1"])
        squares, rows = square_parts(nought_grid("whole", 8, 8))
        self.same([squares, rows], [nought_grid("ratio", 8, 8), one_grid("ratio", 8)])


class Mates(Told):
    def test_the_four_equations(self):
        for given, grid in ratio_grids("mates"):
            found = mate(grid)
            self.tells(found, mate, grid=given)
            self.same(found.shape, grid.shape[::-1])
            self.same([grid * found * grid, found * grid * found], [grid, found])
            self.same([is_even(grid * found), is_even(found * grid)], [True, True])
            self.same([mate(found), mate(grid.turned)], [grid, found.turned])
            if is_turning(grid):
                self.same(found, inverse(grid))

    def test_of_eight_rows(self):
        source = lot("eight")
        for wanted in (1, 5, 8):
            grid = drawn_of_rank("ratio", 8, 8, wanted, source)
            found = mate(grid)
            self.same([grid * found * grid, is_even(found * grid), is_even(grid * found)], [grid, True, True])


class NearestPolys(Told):
    def total(self, points, poly):
        total = Ratio(0)
        for place, worth in points:
            total = total + (poly.at(place) - worth) ** 2
        return total

    def test_no_other_poly_is_nearer(self):
        source = lot("nearest polys")
        for many, degree in ((1, 0), (2, 0), (2, 1), (4, 1), (5, 2), (12, 3), (8, 7), (12, 7)):
            points = tuple((Ratio(k, 2) if k % 3 else k, source.randint(-5, 5)) for k in range(many))
            found = nearest_poly(points, degree)
            self.tells(found, nearest_poly, points=points, degree=degree)
            self.same([found.kind, found.degree <= degree], ["ratio", True])
            for exponent in range(degree + 1):
                # The differences stand square to the values of each power.
                over = sum(((found.at(place) - worth) * Ratio(1) * place ** exponent for place, worth in points), Ratio(0))
                self.same(over, Ratio(0))
                for change in (Ratio(1, 7), -1):
                    other = found + Poly("ratio", (0,) * exponent + (change,))
                    self.same(self.total(points, found).is_below(self.total(points, other)), True)

    def test_through_all_points_where_there_are_few(self):
        points = ((0, 1), (1, 2), (2, 5))
        for degree in (2,):
            self.tells(through("ratio", points), nearest_poly, points=points, degree=degree)
        self.tells(Poly("ratio", ()), nearest_poly, points=((0, 0), (1, 0)), degree=1)

    def test_points_above_one_another(self):
        self.tells(Poly("ratio", (2,)), nearest_poly, points=((0, 1), (0, 3)), degree=0)
        self.tells(Poly("ratio", (2, 1)), nearest_poly, points=((0, 1), (0, 3), (1, 3), (1, 3)), degree=1)
        self.tells(Poly("ratio", (Ratio(1, 2),)), nearest_poly, points=((Ratio(1, 2), 0), (Ratio(1, 2), 1)), degree=0)

    def test_refusals_in_their_order(self):
        for value in [*[one for one in SPOILT if not isinstance(one, tuple)], (), 1, Ratio(1)]:
            self.refuses(InvalidPoints(None), nearest_poly, points=value, degree=None)
        for value in [*SPOILT, (1, 2, 3), [1, 2], (1, None), (True, 1), (Rest(1, 3), 1), (1, Poly("ratio", ()))]:
            self.refuses(InvalidPoints(1), nearest_poly, points=((1, 2), value, None), degree=None)
        self.refuses(InvalidPoints(12), nearest_poly, points=((0, 0),) * 13, degree=None)
        for value in [*SPOILT, -1, 8, Ratio(1)]:
            self.refuses(InvalidNumber(value), nearest_poly, points=((0, 0),), degree=value)
        self.refuses(TooFew(1), nearest_poly, points=((0, 0), (0, 1)), degree=1)
        self.refuses(TooFew(2), nearest_poly, points=((0, 0), (0, 1), (Ratio(2, 2), 1), (1, 1)), degree=2)
        self.refuses(TooFew(7), nearest_poly, points=tuple((k % 7, k) for k in range(12)), degree=7)


class Refusals(Told):
    def test_of_grids(self):
        for call in GRIDS:
            for value in NO_GRIDS:
                self.refuses(NotAGrid(value), call, grid=value)
            for kind in NO_ORDERED:
                self.refuses(NotOrdered(kind), call, grid=nought_grid(kind, 2, 3))

    def test_of_columns(self):
        for value in NO_COLUMNS:
            self.refuses(NotAColumn(value), length, column=value)
        for kind in NO_ORDERED:
            self.refuses(NotOrdered(kind), length, column=led(Column((1, 2)), kind))

    def test_of_both(self):
        for call in PAIRS:
            for value in NO_GRIDS:
                self.refuses(NotAGrid(value), call, grid=value, column=None)
            for value in NO_COLUMNS:
                self.refuses(NotAColumn(value), call, grid=nought_grid("rest 6", 2, 3), column=value)
            for kind in NO_ORDERED:
                self.refuses(NotOrdered(kind), call, grid=nought_grid(kind, 2, 3), column=led(Column((1, 2, 3)), "rest 7"))
                self.refuses(NotOrdered(kind), call, grid=nought_grid("whole", 2, 3), column=led(Column((1, 2, 3)), kind))
            self.refuses(InvalidShape((2, 3), (3, 1)), call, grid=nought_grid("whole", 2, 3), column=led(Column((1, 2, 3)), "ratio"))
