from collections import Counter
from itertools import product

from drawn import (
    FIELDS, NO_FIELDS, all_grids, chains_of_polys, drawn_grid, lot, plain_blocks, plain_rank, turned_around,
)
from gridwright.chains import chain_count, chain_form, chain_grid, chain_turning
from gridwright.errors import InvalidKind, InvalidNumber, NotAField, NotAGrid, NotSquare
from gridwright.grids import Grid, diagonal_grid, nought_grid, one_grid
from gridwright.kinds import nought, number_in, one
from gridwright.leading import led
from gridwright.letters import own_poly
from gridwright.polys import Poly
from gridwright.ratios import Ratio
from gridwright.rests import Rest
from gridwright.rooting import roots_over_field
from gridwright.sides import is_turning
from gridwright.similar import is_alike
from samples import NO_KINDS
from support import SPOILT, Told
from test_grids import NO_GRIDS

NO_SIZES = [*SPOILT, 0, -1, 9, 10 ** 40, Ratio(1), Rest(1, 2)]


def plain_chain(kind, number, size):
    return Grid(tuple(tuple(
        number_in(kind, number) if i == j else one(kind) if i == j + 1 else nought(kind) for j in range(size))
        for i in range(size)))


def plain_form(kind, told):
    """The grid of chain grids of pairs (number, size) from the corner on."""
    total = sum(size for _, size in told)
    rows = [[nought(kind)] * total for _ in range(total)]
    ahead = 0
    for number, size in told:
        for i, row in enumerate(plain_chain(kind, number, size).rows):
            rows[ahead + i][ahead:ahead + size] = row
        ahead += size
    return Grid(tuple(tuple(row) for row in rows))


def shapes(kind):
    """Chain forms, told by pairs of a number and a size, numbers ascending, for one of them sizes descending."""
    third = Ratio(1, 3) if kind == "ratio" else 1
    return (
        ((0, 1),), ((1, 2),), ((0, 1), (1, 1)), ((0, 2), (0, 1)), ((0, 1), (0, 1), (1, 2)), ((0, 3), (1, 1)),
        ((0, 2), (0, 2), (third, 1)), ((0, 8),), ((1, 4), (1, 2), (1, 1), (1, 1)), ((0, 1),) * 8, ((0, 3), (0, 3), (1, 2)),
        ((0, 4), (0, 1), (1, 2), (1, 1)), ((0, 5), (1, 3)), ((0, 2), (0, 2), (0, 2), (0, 2)), ((0, 1), (1, 7)),
    )


class ChainGrids(Told):
    def test_by_definition(self):
        for kind, number, size in product(FIELDS, (0, 1, -2, 10 ** 40), range(1, 9)):
            self.tells(plain_chain(kind, number, size), chain_grid, kind=kind, number=number, size=size)
        self.tells(Grid(((Ratio(1, 2), 0), (1, Ratio(1, 2)))), chain_grid, kind="ratio", number=Ratio(1, 2), size=2)
        self.tells(Grid(((Rest(2, 3),),)), chain_grid, kind="rest 3", number=Rest(2, 3), size=1)


class Forms(Told):
    def holds(self, grid, form):
        """That a grid has this chain form, to which the told grid leads."""
        self.tells(form, chain_form, grid=grid)
        for turning in (chain_turning(grid), chain_turning(grid=grid)):
            self.same([turning.kind, is_turning(turning), grid * turning], [grid.kind, True, turning * form])

    def none(self, grid):
        self.tells(None, chain_form, grid=grid)
        self.tells(None, chain_turning, grid=grid)

    def test_of_grids_turned_around(self):
        for kind in FIELDS:
            source = lot(f"chains {kind}")
            for told in shapes(kind)[FIELDS.index(kind)::2]:
                form = plain_form(kind, told)
                self.holds(turned_around(form, source), form)

    def test_numbers_ascend_and_sizes_descend(self):
        source = lot("in order")
        told = ((Ratio(-7, 2), 1), (Ratio(-1, 3), 2), (Ratio(-1, 3), 1), (Ratio(0), 1), (Ratio(1, 4), 1), (Ratio(2), 2))
        form = plain_form("ratio", told)
        self.holds(turned_around(form, source), form)
        self.holds(plain_form("ratio", told[::-1]), form)
        for prime in (7, 101, 999983):
            told = ((0, 1), (1, 2), (1, 1), (prime - 2, 1), (prime - 1, 3))
            form = plain_form(f"rest {prime}", told)
            self.holds(turned_around(form, source), form)
            self.holds(plain_form(f"rest {prime}", told[::-1]), form)

    def test_exactly_if_the_own_poly_is_a_product_of_such(self):
        for kind in FIELDS:
            source = lot(f"own polys of chains {kind}")
            for size in (1, 2, 3, 4, 5):
                for polys in chains_of_polys(kind, size):
                    self.by_ranks(turned_around(plain_blocks(polys), source))
                self.by_ranks(drawn_grid(kind, size, size, source))

    def by_ranks(self, grid):
        """That the chain form is the one that ranks tell, by the document's words, if the own poly is a product."""
        kind, size = grid.kind, len(grid)
        left, numbers = own_poly(grid), roots_over_field(own_poly(grid))
        for number in numbers:
            while not left.at(number):
                left = left // Poly(kind, (-number, 1))
        if left.degree > 0:
            self.none(grid)
            return
        told = []
        for number in numbers:
            lowered = grid - one_grid(kind, size) * number
            ranks = [plain_rank(lowered ** k) for k in range(size + 2)]
            counts = [ranks[k - 1] - ranks[k] for k in range(1, size + 2)]
            for k in range(size, 0, -1):
                told += [(number, k)] * (counts[k - 1] - counts[k])
        self.holds(grid, plain_form(kind, told))

    def test_all_small_grids(self):
        for grid in [*all_grids(2, 2, 2), *list(all_grids(3, 2, 2))[::2], *list(all_grids(2, 3, 3))[::9]]:
            self.by_ranks(grid)

    def test_alike_exactly_if_the_forms_are_equal(self):
        for kind in ("ratio", "rest 2", "rest 97"):
            source = lot(f"forms {kind}")
            grids = [turned_around(plain_form(kind, told), source) for told in shapes(kind) if sum(size for _, size in told) == 8]
            for grid, other in product(grids[:4], grids[1:4]):
                self.same(chain_form(grid) == chain_form(other), is_alike(grid, other))

    def test_grids_that_have_none(self):
        self.none(led(Grid(((0, -1), (1, 0))), "ratio"))
        self.none(led(Grid(((0, 2, 0), (1, 0, 0), (0, 0, 1))), "ratio"))
        self.none(led(Grid(((0, 1), (1, 1))), "rest 2"))
        nonsquare = next(k for k in range(2, 999983) if pow(k, 999982 // 2, 999983) != 1)
        self.none(led(Grid(((0, nonsquare), (1, 0))), "rest 999983"))

    def test_the_edges(self):
        for kind in FIELDS:
            self.holds(nought_grid(kind, 8, 8), nought_grid(kind, 8, 8))
            self.holds(one_grid(kind, 1), one_grid(kind, 1))
            self.holds(plain_chain(kind, 5, 8).turned, plain_chain(kind, 5, 8))
        self.holds(diagonal_grid("ratio", (3, 1, 2)), diagonal_grid("ratio", (1, 2, 3)))


class Counts(Told):
    def test_as_ranks_of_powers_tell(self):
        for kind in FIELDS:
            source = lot(f"chain counts {kind}")
            for told in shapes(kind)[FIELDS.index(kind)::3]:
                grid = turned_around(plain_form(kind, told), source)
                for number in (0, 1, Ratio(1, 3) if kind == "ratio" else 3):
                    sizes = Counter(size for other, size in told if number_in(kind, other) == number_in(kind, number))
                    for size in (1, 2, 3, 8):
                        expected = sum(many for k, many in sizes.items() if k >= size)
                        self.tells(expected, chain_count, grid=grid, number=number, size=size)

    def test_of_grids_that_have_no_chain_form(self):
        grid = led(Grid(((0, -1, 0), (1, 0, 0), (0, 0, 4))), "ratio")
        self.tells(1, chain_count, grid=grid, number=4, size=1)
        self.tells(0, chain_count, grid=grid, number=Ratio(4), size=2)
        self.tells(0, chain_count, grid=grid, number=5, size=1)
        self.tells(0, chain_count, grid=one_grid("rest 7", 1), number=Rest(2, 7), size=8)
        self.tells(8, chain_count, grid=nought_grid("rest 7", 8, 8), number=0, size=1)


class Refusals(Told):
    def test_of_chain_grids(self):
        for value in [*SPOILT, *NO_KINDS, "rest"]:
            self.refuses(InvalidKind(value), chain_grid, kind=value, number=None, size=None)
        for kind in NO_FIELDS:
            self.refuses(NotAField(kind), chain_grid, kind=kind, number=None, size=None)
        for value in [*SPOILT, Rest(1, 3), Poly("ratio", (1,))]:
            self.refuses(InvalidNumber(value), chain_grid, kind="ratio", number=value, size=None)
        self.refuses(InvalidNumber(Ratio(1)), chain_grid, kind="rest 3", number=Ratio(1), size=9)
        for value in NO_SIZES:
            self.refuses(InvalidNumber(value), chain_grid, kind="ratio", number=1, size=value)

    def test_in_their_order(self):
        for call in (chain_form, chain_turning):
            for value in NO_GRIDS:
                self.refuses(NotAGrid(value), call, grid=value)
            for kind in NO_FIELDS:
                self.refuses(NotAField(kind), call, grid=nought_grid(kind, 2, 3))
            self.refuses(NotSquare((2, 3)), call, grid=nought_grid("ratio", 2, 3))
        for value in NO_GRIDS:
            self.refuses(NotAGrid(value), chain_count, grid=value, number=None, size=None)
        for value in [*SPOILT, Rest(1, 3)]:
            self.refuses(InvalidNumber(value), chain_count, grid=nought_grid("ratio", 2, 3), number=value, size=0)
        for value in NO_SIZES:
            self.refuses(InvalidNumber(value), chain_count, grid=nought_grid("whole", 2, 3), number=1, size=value)
        for kind in NO_FIELDS:
            self.refuses(NotAField(kind), chain_count, grid=nought_grid(kind, 2, 3), number=1, size=1)
        self.refuses(NotSquare((2, 3)), chain_count, grid=nought_grid("ratio", 2, 3), number=1, size=1)
