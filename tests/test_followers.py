from itertools import product

from drawn import (
    FIELDS, NO_FIELDS, all_grids, chains_of_polys, drawn_grid, drawn_number, drawn_turning, lot, plain_blocks,
    plain_follower, turned_around,
)
from gridwright.cores import core_numbers
from gridwright.errors import InvalidPolys, NotAField, NotAGrid, NotAPoly, NotMonic, NotSquare, TooMany
from gridwright.followers import block_form, block_turning, core_polys, follower, follower_blocks
from gridwright.grids import Grid, nought_grid, one_grid
from gridwright.kinds import nought
from gridwright.leading import led
from gridwright.letters import letter_grid, own_poly, poly_at
from gridwright.polys import Poly
from gridwright.ratios import Ratio
from gridwright.rounds import least_poly
from gridwright.sides import is_turning
from samples import is_part, monic_by, total_product
from support import SPOILT, Told
from test_dividing import NO_POLYS
from test_grids import NO_GRIDS
from test_rounds import told_grids

ALONE = (core_polys, block_form, block_turning)


def drawn_monic(kind, degree, source):
    return Poly(kind, tuple(drawn_number(kind, source) for _ in range(degree)) + (1,))


class Followers(Told):
    def test_by_the_words_of_the_document(self):
        source = lot("followers")
        for kind, degree in product(FIELDS, range(1, 9)):
            poly = drawn_monic(kind, degree, source)
            found = follower(poly)
            self.tells(plain_follower(poly), follower, poly=poly)
            self.same([found.kind, found.shape], [kind, (degree, degree)])
            self.same([own_poly(found), least_poly(found), core_polys(found)], [poly, poly, (poly,)])

    def test_the_edges(self):
        self.tells(Grid(((Ratio(5),),)), follower, poly=Poly("ratio", (-5, 1)))
        self.tells(led(Grid(((0, 0, -3), (1, 0, 2), (0, 1, 0))), "rest 7"), follower, poly=Poly("rest 7", (3, -2, 0, 1)))
        for kind in FIELDS:
            self.refuses(TooMany(9), follower, poly=Poly(kind, (0,) * 9 + (1,)))
            for poly in (Poly(kind, ()), Poly(kind, (1,))):
                self.refuses(NotMonic(poly), follower, poly=poly)
        for poly in (Poly("ratio", (1, 2)), Poly("ratio", (0,) * 9 + (2,)), Poly("rest 3", (2,))):
            self.refuses(NotMonic(poly), follower, poly=poly)

    def test_several_from_the_corner_on(self):
        for kind in FIELDS:
            for size in range(1, 9):
                for polys in chains_of_polys(kind, size):
                    self.tells(plain_blocks(polys), follower_blocks, polys=polys)
            x = Poly(kind, (0, 1))
            self.same(follower_blocks((x,) * 8), nought_grid(kind, 8, 8))
            self.refuses(TooMany(9), follower_blocks, polys=(x,) * 9)
            self.refuses(TooMany(9), follower_blocks, polys=(x ** 4, x ** 5))
            self.refuses(TooMany(12), follower_blocks, polys=(x ** 12,))

    def test_the_first_wrong_poly(self):
        x = Poly("ratio", (0, 1))
        for value in [*SPOILT, x, [x], ()]:
            if not isinstance(value, tuple) or not value:
                self.refuses(InvalidPolys(None), follower_blocks, polys=value)
        wrong = [*SPOILT, 1, Ratio(1), Poly("ratio", ()), Poly("ratio", (1,)), x * 2, Poly("whole", (0, 1)), Poly("rest 3", (0, 1))]
        for value in wrong:
            if not isinstance(value, Poly) or value.kind != "rest 3":
                self.refuses(InvalidPolys(0), follower_blocks, polys=(value, x))
            self.refuses(InvalidPolys(1), follower_blocks, polys=(x, value, value))
            self.refuses(InvalidPolys(2), follower_blocks, polys=(x, x ** 5, value, x))
        self.refuses(InvalidPolys(1), follower_blocks, polys=(x, x + 1))
        self.refuses(InvalidPolys(1), follower_blocks, polys=(x ** 2, x))
        self.refuses(InvalidPolys(2), follower_blocks, polys=(x, x * (x - 1), x ** 2 * (x - 2)))
        self.refuses(InvalidPolys(1), follower_blocks, polys=(x ** 9, x + 1))


class BlockForms(Told):
    def holds(self, grid, polys=None):
        """That core polys, block form and turning grid are those of the grid."""
        found, form = core_polys(grid), block_form(grid)
        self.tells(found, core_polys, grid=grid)
        self.tells(form, block_form, grid=grid)
        if polys is not None:
            self.same(found, polys)
        self.same([type(found), sum(poly.degree for poly in found), form], [tuple, len(grid), plain_blocks(found)])
        for poly in found:
            self.same([poly.monic(), poly.degree > 0, poly.kind], [poly, True, grid.kind])
        for poly, other in zip(found, found[1:]):
            self.same(other % poly, Poly(grid.kind, ()))
        for turning in (block_turning(grid), block_turning(grid=grid)):
            self.same([turning.kind, turning.shape, is_turning(turning)], [grid.kind, grid.shape, True])
            self.same(grid * turning, turning * form)

    def test_told_ones(self):
        for kind in FIELDS:
            for grid, polys in told_grids(kind):
                self.holds(grid, polys)

    def test_drawn_ones(self):
        source = lot("block forms")
        for kind, size in product(FIELDS, (1, 2, 3, 5, 8)):
            self.holds(drawn_grid(kind, size, size, source))
            grid = drawn_grid(kind, size, 1, source) * drawn_grid(kind, 1, size, source)
            self.holds(grid)

    def test_all_small_ones(self):
        # Turned around in all ways, each grid has one block form, and no other class of grids has it.
        for prime, size in ((2, 2), (3, 2)):
            turnings = [grid for grid in all_grids(prime, size, size) if is_turning(grid)]
            forms = {}
            for grid in all_grids(prime, size, size):
                self.holds(grid)
                around = frozenset((turning * grid * turning ** -1).text for turning in turnings)
                self.assertIn(block_form(grid).text, around)
                self.same(forms.setdefault(block_form(grid).text, around), around)
            self.same(len(set(forms.values())), len(forms))
        for grid in list(all_grids(2, 3, 3))[::4]:
            self.holds(grid)

    def test_already_in_their_forms(self):
        for kind in FIELDS:
            for size in (1, 3, 4):
                for polys in chains_of_polys(kind, size):
                    self.tells(plain_blocks(polys), block_form, grid=plain_blocks(polys))

    def test_the_edges(self):
        for kind in FIELDS:
            x = Poly(kind, (0, 1))
            self.holds(nought_grid(kind, 8, 8), (x,) * 8)
            self.holds(one_grid(kind, 8), (x - 1,) * 8)
            self.holds(nought_grid(kind, 1, 1), (x,))
        far = 10 ** 30 + 57
        self.holds(led(Grid(((far, 1, 0), (0, far, 0), (0, 0, far))), "ratio"),
                   (Poly("ratio", (-far, 1)), Poly("ratio", (-far, 1)) ** 2))

    def test_great_numbers(self):
        source = lot("great block forms")
        for size in (2, 4):
            rows = tuple(tuple(source.randint(-10 ** 30, 10 ** 30) for _ in range(size)) for _ in range(size))
            self.holds(led(Grid(rows), "ratio"))


class Theorems(Told):
    def test_core_polys_are_the_core_numbers_of_the_letter_grid(self):
        for kind in FIELDS:
            for grid, polys in list(told_grids(kind, range(1, 6)))[::2]:
                cores = core_numbers(letter_grid(grid))
                self.same([len(cores), tuple(core for core in cores if core.degree > 0)], [len(grid), polys])
        source = lot("letter grids of blocks")
        for kind, size in product(FIELDS, (2, 3, 4)):
            grid = drawn_grid(kind, size, size, source)
            self.same(tuple(core for core in core_numbers(letter_grid(grid)) if core.degree > 0), core_polys(grid))

    def test_least_and_own_polys(self):
        for kind in FIELDS:
            for grid, _ in list(told_grids(kind))[::2]:
                polys = core_polys(grid)
                self.same([polys[-1], total_product(polys, kind)], [least_poly(grid), own_poly(grid)])
                self.same(poly_at(own_poly(grid), grid), nought_grid(kind, len(grid), len(grid)))
                self.same(poly_at(polys[-1], grid), nought_grid(kind, len(grid), len(grid)))

    def test_turning_changes_nothing(self):
        for kind in FIELDS:
            for size in (2, 5):
                grid = drawn_grid(kind, size, size, lot(f"turned blocks {kind}"))
                for k in range(2):
                    self.same(block_form(turned_around(grid, lot(f"around {k}"))), block_form(grid))
                self.same(block_form(grid.turned), block_form(grid))

    def test_as_many_block_forms_as_there_are_chains(self):
        # By 2 there are 2 of size 1 and 4 + 2 of size 2: x, x - 1; four polys of degree 2, and twice the same of degree 1.
        for size, expected in ((1, 2), (2, 6)):
            forms = {block_form(grid).text for grid in all_grids(2, size, size)}
            self.same(len(forms), expected)
            chains = [polys for polys in product(monic_by(2, 2), repeat=size) if all(poly.degree > 0 for poly in polys)
                      and sum(poly.degree for poly in polys) == size and all(is_part(a, b) for a, b in zip(polys, polys[1:]))]
            chains += [(poly,) for poly in monic_by(2, 2) if poly.degree == size and size > 1]
            self.same(len(chains), expected)


class Refusals(Told):
    def test_in_their_order(self):
        for value in NO_POLYS:
            self.refuses(NotAPoly(value), follower, poly=value)
        for poly in (Poly("whole", ()), Poly("whole", (1,)), Poly("whole", (0,) * 9 + (1,))):
            self.refuses(NotAField("whole"), follower, poly=poly)
        for call in ALONE:
            for value in NO_GRIDS:
                self.refuses(NotAGrid(value), call, grid=value)
            for kind in NO_FIELDS:
                self.refuses(NotAField(kind), call, grid=nought_grid(kind, 2, 3))
            for kind in FIELDS:
                self.refuses(NotSquare((3, 2)), call, grid=nought_grid(kind, 3, 2))
