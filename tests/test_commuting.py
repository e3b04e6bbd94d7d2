from itertools import product

from drawn import (
    FIELDS, NO_FIELDS, all_grids, chains_of_polys, drawn_grid, drawn_number, lot, plain_blocks, turned_around,
)
from gridwright.blocks import crossed, pile
from gridwright.commuting import both_commuting, commutes, commuting_base, commuting_number, is_lone, poly_for
from gridwright.dividing import common
from gridwright.errors import InvalidShape, NotAField, NotAGrid, NotSquare, Unlike
from gridwright.followers import core_polys
from gridwright.grids import Grid, diagonal_grid, nought_grid, one_grid
from gridwright.leading import led
from gridwright.letters import poly_at
from gridwright.polys import Poly
from gridwright.rounds import least_poly
from gridwright.spans import is_free
from gridwright.stairs import rank
from gridwright.stepping import base_rows
from support import Told
from test_grids import NO_GRIDS

ONE, PAIRS = (commuting_number, commuting_base, is_lone), (commutes, poly_for, both_commuting)


def entries(grid):
    return tuple(entry for row in grid.rows for entry in row)


def plain_number(*grids):
    """How many grids are in a base of those that commute with all of these, by the equations for their entries."""
    size, kind = len(grids[0]), grids[0].kind
    rows = []
    for k in range(size * size):
        unit = Grid(tuple(tuple(int(i * size + j == k) for j in range(size)) for i in range(size)))
        unit = led(unit, kind)
        rows.append(sum((entries(grid * unit - unit * grid) for grid in grids), ()))
    return size * size - len(base_rows(rows, len(rows[0])))


class Numbers(Told):
    def test_by_equations_and_by_the_degrees_of_common_parts(self):
        for kind in FIELDS:
            source = lot(f"commuting {kind}")
            for size in (1, 2, 3, 4):
                for polys in list(chains_of_polys(kind, size))[::1 if size < 4 else 3]:
                    grid = turned_around(plain_blocks(polys), source)
                    expected = sum(common(poly, other).degree for poly in polys for other in polys)
                    self.same(plain_number(grid), expected)
                    self.tells(expected, commuting_number, grid=grid)
                    self.tells(len(polys) == 1, is_lone, grid=grid)
                    self.same([expected >= size, expected == size], [True, len(polys) == 1])

    def test_piles(self):
        # The pile of A * X - X * A is a crossed grid times the pile of X.
        source = lot("piles")
        for kind in ("ratio", "rest 2", "rest 3"):
            one = one_grid(kind, 2)
            for _ in range(5):
                grid, other = drawn_grid(kind, 2, 2, source), drawn_grid(kind, 2, 2, source)
                table = crossed(one, grid) - crossed(grid.turned, one)
                self.same(table * pile(other), pile(grid * other - other * grid))
                self.same(4 - rank(table), commuting_number(grid))

    def test_the_edges(self):
        for kind in FIELDS:
            self.tells(64, commuting_number, grid=one_grid(kind, 8))
            self.tells(64, commuting_number, grid=nought_grid(kind, 8, 8))
            self.tells(1, commuting_number, grid=nought_grid(kind, 1, 1))
            self.tells(True, is_lone, grid=nought_grid(kind, 1, 1))
            self.tells(False, is_lone, grid=nought_grid(kind, 2, 2))


class Bases(Told):
    def holds(self, grid):
        """That so many free grids are told, all of which commute: by their number others are sums of them."""
        base = commuting_base(grid)
        self.tells(base, commuting_base, grid=grid)
        self.same([type(base), len(base)], [tuple, commuting_number(grid)])
        for other in base:
            self.same([other.kind, other.shape, grid * other], [grid.kind, grid.shape, other * grid])
        self.same(len(base_rows([entries(other) for other in base], len(grid) ** 2)), len(base))

    def test_over_drawn_grids(self):
        for kind in FIELDS:
            source = lot(f"bases {kind}")
            for size in (1, 2, 4, 5):
                self.holds(drawn_grid(kind, size, size, source))
                for polys in list(chains_of_polys(kind, size))[::2]:
                    self.holds(turned_around(plain_blocks(polys), source))
        for kind in ("ratio", "rest 3"):
            self.holds(nought_grid(kind, 8, 8))
            self.holds(drawn_grid(kind, 8, 8, lot("eight")))

    def test_all_that_commute_by_two(self):
        for grid in [*all_grids(2, 2, 2), *list(all_grids(2, 3, 3))[::41]]:
            size = len(grid)
            found = sum(grid * other == other * grid for other in all_grids(2, size, size))
            self.same(2 ** len(commuting_base(grid)), found)


class Commutes(Told):
    def test_by_both_products(self):
        source = lot("commutes")
        for grid, other in product(all_grids(2, 2, 2), repeat=2):
            self.tells(grid * other == other * grid, commutes, grid=grid, other=other)
        for kind in FIELDS:
            for size in (1, 2, 3, 8):
                grid = drawn_grid(kind, size, size, source)
                self.tells(True, commutes, grid=grid, other=grid * grid - grid * 3 + one_grid(kind, size))
        first, other = Grid(((1, 1), (0, 1))), Grid(((1, 0), (1, 1)))
        for kind in FIELDS:
            self.tells(False, commutes, grid=led(first, kind), other=led(other, kind))


class Polys(Told):
    def test_polys_at_a_grid_are_found(self):
        for kind in FIELDS:
            source = lot(f"polys for {kind}")
            for size in (1, 2, 3, 5):
                for polys in list(chains_of_polys(kind, size))[::2]:
                    grid = turned_around(plain_blocks(polys), source)
                    for degree in range(-1, size + 2):
                        poly = Poly(kind, tuple(drawn_number(kind, source) for _ in range(degree + 1)))
                        # Just one poly of a degree below that of the least poly is the same grid.
                        self.tells(poly % least_poly(grid), poly_for, grid=grid, other=poly_at(poly, grid))

    def test_the_least_degree_by_two(self):
        polys = sorted([Poly("rest 2", numbers) for numbers in product((0, 1), repeat=3)], key=lambda poly: poly.degree)
        for grid, other in product(all_grids(2, 2, 2), repeat=2):
            expected = next((poly for poly in polys if poly_at(poly, grid) == other), None)
            self.tells(expected, poly_for, grid=grid, other=other)

    def test_lone_exactly_if_all_that_commute_are_polys(self):
        for kind in FIELDS:
            source = lot(f"lone {kind}")
            for polys in chains_of_polys(kind, 3):
                grid = turned_around(plain_blocks(polys), source)
                found = [poly_for(grid, other) for other in commuting_base(grid)]
                self.same(None not in found, is_lone(grid))

    def test_none(self):
        for kind in FIELDS:
            self.tells(None, poly_for, grid=one_grid(kind, 2), other=led(Grid(((1, 1), (0, 1))), kind))
            self.tells(None, poly_for, grid=led(Grid(((0, 1), (0, 0))), kind), other=led(Grid(((0, 0), (1, 0))), kind))
            self.tells(Poly(kind, ()), poly_for, grid=one_grid(kind, 8), other=nought_grid(kind, 8, 8))
            self.tells(Poly(kind, (5,)), poly_for, grid=nought_grid(kind, 8, 8), other=one_grid(kind, 8) * 5)
            self.tells(Poly(kind, (0, 1)), poly_for, grid=led(Grid(((0, 1), (1, 1))), kind), other=led(Grid(((0, 1), (1, 1))), kind))


class Both(Told):
    def test_by_equations(self):
        for kind in FIELDS:
            source = lot(f"both {kind}")
            for size in (1, 2, 3):
                grids = [turned_around(plain_blocks(polys), source) for polys in list(chains_of_polys(kind, size))[:4]]
                grids.append(drawn_grid(kind, size, size, source))
                for grid, other in product(grids, grids):
                    self.tells(plain_number(grid, other), both_commuting, grid=grid, other=other)

    def test_all_that_commute_with_both_by_two(self):
        for grid, other in product(all_grids(2, 2, 2), repeat=2):
            found = sum(grid * one == one * grid and other * one == one * other for one in all_grids(2, 2, 2))
            self.same(2 ** both_commuting(grid, other), found)

    def test_the_edges(self):
        for kind in ("ratio", "rest 2"):
            self.tells(64, both_commuting, grid=one_grid(kind, 8), other=nought_grid(kind, 8, 8))
            grid = diagonal_grid(kind, (0, 1))
            self.tells(1, both_commuting, grid=grid, other=led(Grid(((0, 1), (1, 0))), kind) if kind == "ratio" else led(
                Grid(((0, 1), (1, 1))), kind))
            eight = drawn_grid(kind, 8, 8, lot("both eight"))
            self.tells(commuting_number(eight), both_commuting, grid=one_grid(kind, 8), other=eight)
            self.tells(commuting_number(eight), both_commuting, grid=eight, other=eight * eight + eight)
            self.same(len(core_polys(eight)) == 1, is_lone(eight))
            self.same(is_free(eight.columns), rank(eight) == 8)


class Refusals(Told):
    def test_of_one_grid(self):
        for call in ONE:
            for value in NO_GRIDS:
                self.refuses(NotAGrid(value), call, grid=value)
            for kind in NO_FIELDS:
                self.refuses(NotAField(kind), call, grid=nought_grid(kind, 2, 3))
            self.refuses(NotSquare((2, 3)), call, grid=nought_grid("ratio", 2, 3))

    def test_of_two(self):
        for call in PAIRS:
            for value in NO_GRIDS:
                self.refuses(NotAGrid(value), call, grid=value, other=None)
                self.refuses(NotAGrid(value), call, grid=nought_grid("whole", 1, 2), other=value)
            for kind in NO_FIELDS:
                self.refuses(NotAField(kind), call, grid=nought_grid(kind, 2, 3), other=nought_grid("ratio", 3, 2))
                self.refuses(NotAField(kind), call, grid=nought_grid("ratio", 2, 3), other=nought_grid(kind, 3, 2))
            self.refuses(Unlike("ratio", "rest 3"), call, grid=nought_grid("ratio", 2, 3), other=nought_grid("rest 3", 3, 2))
            self.refuses(NotSquare((2, 3)), call, grid=nought_grid("ratio", 2, 3), other=nought_grid("ratio", 3, 2))
            self.refuses(NotSquare((3, 2)), call, grid=nought_grid("ratio", 2, 2), other=nought_grid("ratio", 3, 2))
            self.refuses(InvalidShape((2, 2), (3, 3)), call, grid=nought_grid("ratio", 2, 2), other=nought_grid("ratio", 3, 3))
