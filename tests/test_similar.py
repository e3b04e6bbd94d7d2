from itertools import product

from drawn import (
    FIELDS, NO_FIELDS, all_grids, chains_of_polys, drawn_grid, lot, plain_blocks, plain_rank, turned_around,
)
from gridwright.dividing import common
from gridwright.errors import InvalidShape, NotAField, NotAGrid, NotAPoly, NotSquare, Unlike
from gridwright.followers import block_form, core_polys
from gridwright.grids import Grid, nought_grid, one_grid
from gridwright.leading import led
from gridwright.letters import own_poly, poly_at
from gridwright.polys import Poly
from gridwright.rounds import least_poly
from gridwright.sides import is_turning
from gridwright.similar import is_alike, leading_grid, poly_rank, telling_poly
from gridwright.stairs import rank
from samples import monic_by
from support import Told
from test_dividing import NO_POLYS
from test_grids import NO_GRIDS

PAIRS = (is_alike, leading_grid, telling_poly)


class AlikeOrNot(Told):
    def holds(self, grid, other, expected=None):
        """That a grid is told that leads one to the other, or a poly that tells them apart, and never both."""
        found = is_alike(grid, other)
        self.tells(found, is_alike, grid=grid, other=other)
        if expected is not None:
            self.same(found, expected)
        self.same(found, block_form(grid) == block_form(other))
        for turning in (leading_grid(grid, other), leading_grid(grid=grid, other=other)):
            self.same(turning is not None, found)
            if turning is not None:
                self.same([turning.kind, is_turning(turning), grid * turning], [grid.kind, True, turning * other])
        for telling in (telling_poly(grid, other), telling_poly(grid=grid, other=other)):
            self.same(telling is None, found)
            if telling is not None:
                self.assertIn(telling, core_polys(grid) + core_polys(other))
                self.same(rank(poly_at(telling, grid)) == rank(poly_at(telling, other)), False)

    def test_turned_around(self):
        for kind in FIELDS:
            source = lot(f"turned around {kind}")
            for size in (1, 2, 3, 5, 8):
                grid = drawn_grid(kind, size, size, source)
                self.holds(grid, turned_around(grid, source), True)
                for polys in list(chains_of_polys(kind, size))[::3]:
                    blocks = plain_blocks(polys)
                    self.holds(turned_around(blocks, source), turned_around(blocks, source), True)

    def test_turned_over(self):
        source = lot("turned over")
        for kind, size in product(FIELDS, (2, 4)):
            grid = drawn_grid(kind, size, size, source)
            self.holds(grid, grid.turned, True)

    def test_unlike_core_polys(self):
        for kind in FIELDS:
            source = lot(f"unlike {kind}")
            for size in (2, 3, 5) if kind == "ratio" else (2, 4):
                told = list(chains_of_polys(kind, size))
                for k, polys in enumerate(told):
                    for other in told[k + 1:]:
                        self.holds(turned_around(plain_blocks(polys), source), plain_blocks(other), polys == other)

    def test_one_least_poly_and_one_own_poly_but_not_alike(self):
        # Block forms of 4 rows with (x) twice behind x ** 2, and with x ** 2 twice, are told apart by x alone.
        for kind in FIELDS:
            x = Poly(kind, (0, 1))
            first, other = plain_blocks((x, x, x ** 2)), plain_blocks((x ** 2, x ** 2))
            self.same([least_poly(first), own_poly(first)], [least_poly(other), own_poly(other)])
            self.tells(x, telling_poly, grid=first, other=other)
            self.holds(turned_around(first, lot("first")), turned_around(other, lot("other")), False)
            seven = plain_blocks((x, x ** 3, x ** 3)), plain_blocks((x ** 2, x ** 2, x ** 3))
            self.holds(*seven, False)

    def test_all_small_grids(self):
        turnings = [grid for grid in all_grids(2, 2, 2) if is_turning(grid)]
        for grid, other in product(all_grids(2, 2, 2), repeat=2):
            self.holds(grid, other, any(grid * turning == turning * other for turning in turnings))
        turnings = [grid for grid in all_grids(3, 2, 2) if is_turning(grid)]
        for grid, other in product(list(all_grids(3, 2, 2))[::7], list(all_grids(3, 2, 2))[::5]):
            self.holds(grid, other, any(grid * turning == turning * other for turning in turnings))

    def test_the_edges(self):
        for kind in ("ratio", "rest 2"):
            self.holds(nought_grid(kind, 8, 8), nought_grid(kind, 8, 8), True)
            self.holds(one_grid(kind, 8), nought_grid(kind, 8, 8), False)
            self.holds(one_grid(kind, 1), one_grid(kind, 1), True)
            step = [[int(i == j + 1) for j in range(8)] for i in range(8)]
            grid = led(Grid(tuple(tuple(row) for row in step)), kind)
            self.holds(grid, grid.turned, True)
            self.holds(grid, nought_grid(kind, 8, 8), False)


class Ranks(Told):
    def test_of_polys_at_grids(self):
        source = lot("ranks of polys")
        for prime, size in ((2, 2), (3, 2), (2, 3)):
            for _ in range(6):
                grid = drawn_grid(f"rest {prime}", size, size, source)
                for poly in monic_by(prime, 3):
                    self.tells(plain_rank(poly_at(poly, grid)), poly_rank, poly=poly, grid=grid)

    def test_the_size_less_the_degrees_of_common_parts(self):
        for kind in FIELDS:
            source = lot(f"common parts {kind}")
            x = Poly(kind, (0, 1))
            for size in (1, 3, 4, 5):
                for polys in list(chains_of_polys(kind, size))[::2]:
                    grid = turned_around(plain_blocks(polys), source)
                    for poly in (x, x - 1, x ** 2, x * (x - 1), x * x + x + 1, x - x, x ** 0, *polys):
                        expected = size - sum(common(poly, core).degree for core in polys)
                        self.tells(expected, poly_rank, poly=poly, grid=grid)

    def test_core_polys_at_alike_grids_and_at_others(self):
        for kind in FIELDS:
            source = lot(f"core polys at grids {kind}")
            grids = [turned_around(plain_blocks(polys), source) for polys in chains_of_polys(kind, 4)]
            for grid, other in product(grids, grids):
                polys = core_polys(grid) + core_polys(other)
                alike = all(poly_rank(poly, grid) == poly_rank(poly, other) for poly in polys)
                self.same(is_alike(grid, other), alike)


class Refusals(Told):
    def test_in_their_order(self):
        for call in PAIRS:
            for value in NO_GRIDS:
                self.refuses(NotAGrid(value), call, grid=value, other=None)
                self.refuses(NotAGrid(value), call, grid=nought_grid("whole", 1, 2), other=value)
            for kind in NO_FIELDS:
                self.refuses(NotAField(kind), call, grid=nought_grid(kind, 2, 3), other=nought_grid("ratio", 3, 2))
                self.refuses(NotAField(kind), call, grid=nought_grid("ratio", 2, 3), other=nought_grid(kind, 3, 2))
            self.refuses(Unlike("ratio", "rest 3"), call, grid=nought_grid("ratio", 2, 3), other=nought_grid("rest 3", 3, 2))
            self.refuses(NotSquare((2, 3)), call, grid=nought_grid("ratio", 2, 3), other=nought_grid("ratio", 3, 2))
            self.refuses(NotSquare((3, 2)), call, grid=nought_grid("ratio", 2, 2), other=nought_grid("ratio", 3, 2))
            self.refuses(InvalidShape((2, 2), (3, 3)), call, grid=nought_grid("ratio", 2, 2), other=nought_grid("ratio", 3, 3))
        for value in NO_POLYS:
            self.refuses(NotAPoly(value), poly_rank, poly=value, grid=None)
        for value in NO_GRIDS:
            self.refuses(NotAGrid(value), poly_rank, poly=Poly("whole", ()), grid=value)
        for kind in NO_FIELDS:
            self.refuses(NotAField(kind), poly_rank, poly=Poly("ratio", (1,)), grid=nought_grid(kind, 2, 3))
        self.refuses(NotAField("whole"), poly_rank, poly=Poly("whole", (1,)), grid=nought_grid("rest 6", 2, 3))
        self.refuses(Unlike("ratio", "rest 3"), poly_rank, poly=Poly("ratio", (1,)), grid=nought_grid("rest 3", 2, 3))
        self.refuses(NotSquare((2, 3)), poly_rank, poly=Poly("ratio", (1,)), grid=nought_grid("ratio", 2, 3))
