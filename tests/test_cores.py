from itertools import combinations

from drawn import (
    drawn_grid, drawn_turning, drawn_whole, drawn_whole_of_rank, drawn_whole_turning, lot, plain_common_minor,
    plain_minor, plain_rank,
)
from gridwright.cores import are_led, core_grid, core_numbers, core_turnings, parting_size
from gridwright.dets import det
from gridwright.dividing import common
from gridwright.errors import InvalidShape, NotAGrid, NotWhole, TooMany, Unlike
from gridwright.grids import Grid, nought_grid, one_grid
from gridwright.kinds import nought
from gridwright.lattices import common_minor
from gridwright.polys import Poly
from gridwright.sides import is_turning
from support import Told
from test_grids import NO_GRIDS

POLY_KINDS = ("poly ratio", "poly rest 2", "poly rest 5", "poly rest 999983")
SMALL = ((1, 1), (1, 3), (3, 1), (2, 2), (2, 3), (3, 2), (3, 3))
ALONE = (core_numbers, core_grid, core_turnings)
PAIRS = (are_led, parting_size)


def whole_grids(name):
    source = lot(name)
    for height, width in SMALL:
        for wanted in range(min(height, width) + 1):
            yield drawn_whole_of_rank(height, width, wanted, source, 3)
        for _ in range(3):
            yield drawn_whole(height, width, source, 6)
        if height == width:
            yield drawn_whole(height, width, source, 3) * 2 * drawn_whole(height, width, source, 3)


def great_grids(name):
    source = lot(name)
    for height, width in ((1, 8), (8, 1), (5, 8), (8, 5), (8, 8)):
        for wanted in sorted({0, 1, min(height, width) - 1, min(height, width)}):
            yield drawn_whole_of_rank(height, width, wanted, source)
        yield drawn_whole(height, width, source, 10 ** 30)


def poly_grids(kind, name):
    source = lot(name)
    for height, width in SMALL:
        yield nought_grid(kind, height, width)
        for _ in range(2):
            yield drawn_grid(kind, height, width, source)
        yield drawn_grid(kind, height, 1, source) * drawn_grid(kind, 1, width, source)
        if height == width:
            yield drawn_grid(kind, height, width, source) * Poly(kind[5:], (1, 1)) * drawn_grid(kind, height, width, source)


def plain_common_poly(grid, size):
    """The monic common part of all minors of a size, nought if all are."""
    found = nought(grid.kind)
    for rows in combinations(range(grid.shape[0]), size):
        for places in combinations(range(grid.shape[1]), size):
            found = common(found, plain_minor(grid, rows, places))
    return found


def is_plain(core):
    """Whether a core number is above 0, or monic."""
    return core == core.monic() if isinstance(core, Poly) else core > 0


class CoreNumbers(Told):
    def form(self, grid):
        """That the core numbers, the core grid and the turning grids fit together; the core numbers."""
        cores, form = core_numbers(grid), core_grid(grid)
        self.tells(cores, core_numbers, grid=grid)
        self.tells(form, core_grid, grid=grid)
        self.same([form.shape, form.kind, len(cores) <= min(grid.shape)], [grid.shape, grid.kind, True])
        for i, row in enumerate(form.rows):
            for j, entry in enumerate(row):
                self.same(entry, cores[i] if i == j < len(cores) else nought(grid.kind))
        for core in cores:
            self.same(is_plain(core), True)
        for core, other in zip(cores, cores[1:]):
            self.same(other % core, nought(grid.kind))
        for found in (core_turnings(grid), core_turnings(grid=grid)):
            self.assertIs(type(found), tuple)
            left, right = found
            self.same([left.shape, right.shape], [(len(grid),) * 2, (grid.shape[1],) * 2])
            self.same([left.kind, right.kind, left * grid * right], [grid.kind, grid.kind, form])
            self.same([is_turning(left), is_turning(right)], [True, True])
        return cores

    def test_whole_ones_make_the_common_minors(self):
        for grid in whole_grids("whole cores"):
            cores = self.form(grid)
            total = 1
            for size in range(1, min(grid.shape) + 1):
                total = total * cores[size - 1] if size <= len(cores) else 0
                self.same([plain_common_minor(grid, size), common_minor(grid, size)], [total, total])

    def test_great_whole_ones(self):
        for grid in great_grids("great cores"):
            cores = self.form(grid)
            total = 1
            for size in range(1, min(grid.shape) + 1):
                total = total * cores[size - 1] if size <= len(cores) else 0
                if size in (1, min(grid.shape)):
                    self.same(common_minor(grid, size), total)
            if grid.is_square and len(cores) == len(grid):
                self.same(abs(det(grid)), total)

    def test_polys_make_the_common_parts_of_minors(self):
        for kind in POLY_KINDS:
            for grid in poly_grids(kind, "poly cores"):
                cores = self.form(grid)
                total = Poly(kind[5:], (1,))
                for size in range(1, min(grid.shape) + 1):
                    total = total * cores[size - 1] if size <= len(cores) else Poly(kind[5:], ())
                    self.same(plain_common_poly(grid, size), total)

    def test_polys_with_five_rows_and_places(self):
        for kind in POLY_KINDS:
            source = lot(f"five {kind}")
            x = Poly(kind[5:], (0, 1))
            told = (x ** 0, x, x * (x + 1), x * (x + 1) ** 2, x ** 3 * (x + 1) ** 2)
            middle = Grid(tuple(tuple(told[i] if i == j else 0 for j in range(5)) for i in range(5)))
            grid = drawn_turning(kind, 5, source) * middle * drawn_turning(kind, 5, source)
            self.same(self.form(grid), told)
            self.same(self.form(Grid(grid.rows[:2])), core_numbers(Grid(grid.rows[:2]).turned))
            self.refuses(TooMany(6), core_numbers, grid=nought_grid(kind, 6, 1))

    def test_told_cores(self):
        source = lot("told cores")
        for told in ((1, 1, 1), (2, 6, 12), (1, 3), (5, 0), (7,), (1, 1, 4, 0), (10 ** 30, 10 ** 31), (2, 2, 2, 2, 4, 4, 8, 0)):
            size = len(told)
            middle = Grid(tuple(tuple(told[i] if i == j else 0 for j in range(size)) for i in range(size)))
            for _ in range(3):
                grid = drawn_whole_turning(size, source, 20) * middle * drawn_whole_turning(size, source, 20)
                self.same(self.form(grid), tuple(core for core in told if core))

    def test_numbers_that_do_not_divide_one_another(self):
        self.tells((1, 6), core_numbers, grid=Grid(((2, 0), (0, 3))))
        self.tells((2, 60), core_numbers, grid=Grid(((-12, 0), (0, 10))))
        self.tells((1, 30, 900), core_numbers, grid=Grid(((6, 0, 0), (0, 45, 0), (0, 0, 100))))
        self.tells((6,), core_numbers, grid=Grid(((0, 0), (0, -6))))
        x = Poly("ratio", (0, 1))
        self.tells((Poly("ratio", (1,)), x * (x - 1)), core_numbers, grid=Grid(((x * 3, 0), (0, (x - 1) * -2))))

    def test_the_edges(self):
        for kind in ("whole", *POLY_KINDS):
            self.tells((), core_numbers, grid=nought_grid(kind, 3, 4))
            self.tells(nought_grid(kind, 3, 4), core_grid, grid=nought_grid(kind, 3, 4))
            one = one_grid(kind, 4)
            self.tells(one, core_grid, grid=one)
            self.same(len(core_numbers(one)), 4)
        self.tells((1,) * 8, core_numbers, grid=one_grid("whole", 8))
        self.tells((5,), core_numbers, grid=Grid(((-5,),)))
        self.tells((Poly("rest 5", (3, 1)),), core_numbers, grid=Grid(((Poly("rest 5", (1, 2)),),)))

    def test_turning_on_both_sides_changes_nothing(self):
        source = lot("turned cores")
        for grid in whole_grids("whole cores turned"):
            turned = drawn_whole_turning(len(grid), source) * grid * drawn_whole_turning(grid.shape[1], source)
            self.same(core_numbers(turned), core_numbers(grid))
            self.same(core_numbers(grid.turned), core_numbers(grid))
        for kind in POLY_KINDS:
            for grid in list(poly_grids(kind, "poly cores turned"))[::3]:
                turned = drawn_turning(kind, len(grid), source) * grid * drawn_turning(kind, grid.shape[1], source)
                self.same(core_numbers(turned), core_numbers(grid))

    def test_as_many_as_the_rank(self):
        for grid in whole_grids("ranks by cores"):
            self.same(len(core_numbers(grid)), plain_rank(grid))


class LedIntoOneAnother(Told):
    def products(self, grid):
        """The products of the first core numbers by all sizes, by minors."""
        plain = plain_common_minor if grid.kind == "whole" else plain_common_poly
        return [plain(grid, size) for size in range(1, min(grid.shape) + 1)]

    def holds(self, grid, other):
        unlike = [k + 1 for k, (a, b) in enumerate(zip(self.products(grid), self.products(other))) if a != b]
        self.tells(not unlike, are_led, grid=grid, other=other)
        self.tells(unlike[0] if unlike else None, parting_size, grid=grid, other=other)

    def test_whole_ones(self):
        grids = list(whole_grids("led"))
        for grid in grids:
            for other in grids[::3]:
                if grid.shape == other.shape:
                    self.holds(grid, other)

    def test_polys(self):
        for kind in POLY_KINDS:
            grids = list(poly_grids(kind, "led polys"))
            for grid in grids[::2]:
                for other in grids[::3]:
                    if grid.shape == other.shape:
                        self.holds(grid, other)

    def test_the_least_size(self):
        def diagonal(*cores):
            return Grid(tuple(tuple(core if i == j else 0 for j in range(len(cores))) for i, core in enumerate(cores)))

        self.tells(1, parting_size, grid=diagonal(1, 4, 8), other=diagonal(2, 2, 8))
        self.tells(2, parting_size, grid=diagonal(1, 4, 8), other=diagonal(1, 2, 16))
        self.tells(3, parting_size, grid=diagonal(1, 4, 8), other=diagonal(1, 4, 0))
        self.tells(None, parting_size, grid=diagonal(2, 3), other=diagonal(-6, 1))
        self.tells(1, parting_size, grid=nought_grid("whole", 1, 5), other=Grid(((0, 0, 0, 0, 10 ** 40),)))
        poly = Poly("ratio", (2, 1))
        self.tells(None, parting_size, grid=diagonal(poly, poly), other=diagonal(poly * 5, poly * -1))
        self.tells(2, parting_size, grid=diagonal(poly, poly), other=diagonal(poly, poly * poly))


class Refusals(Told):
    def test_in_their_order(self):
        for value in NO_GRIDS:
            for call in ALONE:
                self.refuses(NotAGrid(value), call, grid=value)
            for call in PAIRS:
                self.refuses(NotAGrid(value), call, grid=value, other=None)
                self.refuses(NotAGrid(value), call, grid=nought_grid("ratio", 1, 1), other=value)
        for kind in ("ratio", "rest 2", "rest 6", "poly whole"):
            for call in ALONE:
                self.refuses(NotWhole(kind), call, grid=nought_grid(kind, 6, 8))
            for call in PAIRS:
                self.refuses(NotWhole(kind), call, grid=nought_grid(kind, 6, 8), other=nought_grid("poly ratio", 6, 6))
                self.refuses(NotWhole(kind), call, grid=nought_grid("poly ratio", 6, 8), other=nought_grid(kind, 6, 6))
        for call in ALONE:
            self.refuses(TooMany(6), call, grid=nought_grid("poly ratio", 6, 1))
            self.refuses(TooMany(8), call, grid=nought_grid("poly rest 3", 7, 8))
        for call in PAIRS:
            self.refuses(Unlike("whole", "poly ratio"), call, grid=nought_grid("whole", 6, 8), other=nought_grid("poly ratio", 6, 6))
            self.refuses(InvalidShape((6, 8), (6, 6)), call, grid=nought_grid("poly ratio", 6, 8), other=nought_grid("poly ratio", 6, 6))
            self.refuses(TooMany(8), call, grid=nought_grid("poly ratio", 6, 8), other=nought_grid("poly ratio", 6, 8))
            call(nought_grid("whole", 8, 8), one_grid("whole", 8))
            call(nought_grid("poly ratio", 5, 5), one_grid("poly ratio", 5))
