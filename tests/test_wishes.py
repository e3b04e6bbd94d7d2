from itertools import product

from drawn import KINDS, NO_FIELDS, all_grids, drawn_grid, drawn_of_rank, drawn_turning, drawn_whole_turning, lot, plain_det, turned_around
from gridwright.cores import core_numbers
from gridwright.errors import InvalidPairs, InvalidWish, UnknownName
from gridwright.grids import Grid, nought_grid, one_grid
from gridwright.kinds import nought, written
from gridwright.lattices import same_lattice
from gridwright.leading import led
from gridwright.letters import own_poly, poly_at
from gridwright.polys import Poly
from gridwright.ratios import Ratio
from gridwright.rests import Rest
from gridwright.sides import is_turning
from gridwright.similar import is_alike
from gridwright.spans import base_of
from gridwright.stairs import rank
from gridwright.wishes import holds, is_wish, names_in
from samples import NO_KINDS
from support import SPOILT, Told
from test_conventions import DEEP, Claims, Refuses

WISHES = (
    ("kind", "a", "rest 6"), ("rank", "a", 0), ("rank", "b", 8), ("turning", "a"), ("determinant", "a", "6"), ("determinant", "", "x y"),
    ("cores", "a", ()), ("cores", "a", ("1", "2")), ("nought at", "a", "(1,2)"), ("rows", "a", "b"), ("alike", "b", "a"), ("sum", "a", "b", "c"),
    ("product", "a", "a", "a"), ("commute", "a", "Any String"), ("nought at", "9", ""), ("cores", "a", ("", "zz")), ("turning", "much too long"),
)
NO_WISHES = [
    *SPOILT, DEEP, Claims(), Refuses(), "turning", ("turning",), ("turning", 1), ("turning", None), ("turning", "a", "b"), ["turning", "a"],
    ("kind", "a"), ("kind", "a", None), ("kind", "a", "ratios"), ("kind", "a", "rest 1"), ("kind", "a", "ratio", 1), ("rank", "a"), ("rank", "a", -1),
    ("rank", "a", 9), ("rank", "a", True), ("rank", "a", "1"), ("rank", "a", Ratio(1)), ("determinant", "a"), ("determinant", "a", 6),
    ("determinant", "a", ("6",)), ("cores", "a"), ("cores", "a", "1"), ("cores", "a", ["1"]), ("cores", "a", (1,)), ("cores", "a", ("1", None)),
    ("nought at", "a"), ("nought at", "a", ("(1)",)), ("rows", "a"), ("rows", "a", "b", "c"), ("rows", "a", 1), ("alike", "a", None), ("sum", "a", "b"),
    ("sum", "a", "b", "c", "d"), ("product", "a", "b", 3), ("commute", "a"), ("commute", "a", "b", "c"), (Claims(), "a"), (Refuses(), "a"),
    ("turning", Claims()), ("turning", Refuses()), ("rank", "a", Refuses()), ("kind", "a", Claims()), ("other", "a"), (None, "a"), ("", "a"), (1, "a"),
    ("cores", "a", (Refuses(),)), ("determinant", "a", Claims()),
]
NO_NAMES = ["", "A", "aB", "abcdefghi", "a1", "a b", "a_", "-", " a", "a\n"]


class Forms(Told):
    def test_wishes(self):
        for wish in WISHES:
            self.tells(True, is_wish, value=wish)
        for name, text in product(("a", "Z9", "", "much too long for a name"), ("", "1/2", "(1)")):
            for word in ("determinant", "nought at"):
                self.tells(True, is_wish, value=(word, name, text))

    def test_everything_else_is_none(self):
        for value in NO_WISHES:
            self.tells(False, is_wish, value=value)
            self.refuses(InvalidWish(value), names_in, wish=value)
            self.refuses(InvalidWish(value), holds, wish=value, pairs=None)
        for kind in NO_KINDS:
            self.tells(False, is_wish, value=("kind", "a", kind))
        for kind in KINDS:
            self.tells(True, is_wish, value=("kind", "a", kind))
        for k in range(9):
            self.tells(True, is_wish, value=("rank", "a", k))

    def test_names(self):
        for wish, names in (
            (("kind", "a", "whole"), ("a",)), (("rank", "b", 1), ("b",)), (("turning", "c"), ("c",)), (("determinant", "a", "b"), ("a",)),
            (("cores", "a", ("b",)), ("a",)), (("nought at", "a", "b"), ("a",)), (("rows", "b", "a"), ("b", "a")), (("alike", "a", "a"), ("a", "a")),
            (("sum", "c", "b", "a"), ("c", "b", "a")), (("product", "a", "b", "a"), ("a", "b", "a")), (("commute", "x", "y"), ("x", "y")),
        ):
            self.tells(names, names_in, wish=wish)


class Holding(Told):
    def says(self, expected, wish, **grids):
        self.tells(expected, holds, wish=wish, pairs=tuple(grids.items()))

    def some(self, name):
        source = lot(name)
        for kind in KINDS:
            for height, width in ((1, 1), (2, 2), (2, 3), (3, 3)):
                yield drawn_grid(kind, height, width, source)
            yield one_grid(kind, 2)
            yield drawn_turning(kind, 2, source)
            yield nought_grid(kind, 2, 2)

    def test_kinds(self):
        for grid in self.some("kinds"):
            for kind in ("whole", "ratio", "rest 2", "rest 6", "poly ratio", grid.kind):
                self.says(grid.kind == kind, ("kind", "a", kind), a=grid)

    def test_ranks(self):
        for grid in self.some("ranks"):
            for k in range(4):
                self.says(grid.kind not in NO_FIELDS and rank(grid) == k, ("rank", "a", k), a=grid)
        self.says(True, ("rank", "a", 8), a=one_grid("rest 2", 8))

    def test_turning_grids(self):
        for grid in self.some("turning"):
            self.says(is_turning(grid), ("turning", "a"), a=grid)
        self.says(False, ("turning", "a"), a=nought_grid("whole", 2, 3))
        self.says(True, ("turning", "a"), a=led(Grid(((5,),)), "rest 6"))

    def test_determinants(self):
        for grid in self.some("determinants"):
            square = grid.is_square
            number = plain_det(grid.kind, grid.rows) if square else nought(grid.kind)
            self.says(square, ("determinant", "a", written(number)), a=grid)
            for text in ("", "x", " 1", written(number) + " ", "0" + written(number), "1 2", "--1", "(", written(number + 1)):
                if text != written(number):
                    self.says(False, ("determinant", "a", text), a=grid)
        self.says(True, ("determinant", "a", "6"), a=Grid(((2, 1), (4, 5))))
        self.says(False, ("determinant", "a", "6/1"), a=Grid(((2, 1), (4, 5))))
        self.says(True, ("determinant", "a", "6/1"), a=led(Grid(((2, 1), (4, 5))), "ratio"))
        self.says(True, ("determinant", "a", "1"), a=led(Grid(((2, 1), (4, 5))), "rest 5"))

    def test_cores(self):
        for grid in self.some("cores"):
            if grid.kind == "whole" or grid.kind in ("poly ratio", "poly rest 3"):
                texts = tuple(written(core) for core in core_numbers(grid))
                self.says(True, ("cores", "a", texts), a=grid)
                self.says(False, ("cores", "a", texts + ("0",)), a=grid)
                self.says(False, ("cores", "a", texts + ("x",)), a=grid)
                self.says(False, ("cores", "a", texts[:-1]) if texts else ("cores", "a", ("1",)), a=grid)
            else:
                for texts in ((), ("1",), ("1", "1")):
                    self.says(False, ("cores", "a", texts), a=grid)
        self.says(True, ("cores", "a", ("2", "4")), a=Grid(((2, 4), (6, 8))))
        self.says(False, ("cores", "a", ("4", "2")), a=Grid(((2, 4), (6, 8))))
        self.says(False, ("cores", "a", ("2", "-4")), a=Grid(((2, 4), (6, 8))))
        self.says(True, ("cores", "a", ()), a=nought_grid("whole", 8, 8))
        for size in (5, 6):
            self.says(size == 5, ("cores", "a", ("(1/1)",) * size), a=one_grid("poly ratio", size))
        self.says(False, ("cores", "a", ()), a=nought_grid("poly rest 3", 1, 6))
        self.says(False, ("cores", "a", ()), a=nought_grid("poly rest 3", 6, 1))
        self.says(True, ("cores", "a", ()), a=nought_grid("poly rest 3", 5, 1))

    def test_polys_that_are_nought(self):
        for grid in self.some("noughts"):
            inner = grid.kind in ("whole", "ratio") or grid.kind.startswith("rest ") and grid.kind not in NO_FIELDS
            if inner and grid.is_square:
                poly = own_poly(grid)
                for other in (poly, poly + 1, poly * 2, Poly(grid.kind, ()), Poly(grid.kind, (0, 1)), Poly(grid.kind, (-1, 1))):
                    self.says(not poly_at(other, grid), ("nought at", "a", written(other)), a=grid)
            else:
                for text in ("()", "0", "1", "(0)"):
                    self.says(False, ("nought at", "a", text), a=grid)
        for text in ("", "0", "(1,)", "(0)", "poly whole: (6,-7,1)", "(6/1,-7/1,1/1)", "x"):
            self.says(False, ("nought at", "a", text), a=Grid(((2, 1), (4, 5))))
        self.says(True, ("nought at", "a", "(6,-7,1)"), a=Grid(((2, 1), (4, 5))))

    def test_rows(self):
        source = lot("rows")
        grids = [*self.some("rows of grids"), Grid(((1, 2), (3, 5))), Grid(((1, 0), (0, 1))), nought_grid("whole", 1, 2)]
        for grid, other in product(grids[::2], grids[::3]):
            expected = False
            if grid.kind == other.kind and grid.shape[1] == other.shape[1]:
                if grid.kind == "whole":
                    expected = same_lattice(grid, other)
                elif grid.kind not in NO_FIELDS:
                    rows = [tuple(one.row(k) for k in range(len(one))) for one in (grid, other)]
                    expected = base_of(rows[0]) == base_of(rows[1])
            self.says(expected, ("rows", "a", "b"), a=grid, b=other)
        for kind in ("ratio", "rest 2", "rest 97"):
            grid = drawn_of_rank(kind, 3, 4, 2, source)
            self.says(True, ("rows", "b", "a"), a=grid, b=drawn_turning(kind, 3, source) * grid)
            self.says(True, ("rows", "b", "a"), a=Grid(grid.rows + grid.rows[:1]), b=grid)
        self.says(True, ("rows", "b", "a"), a=Grid(((2, 0), (0, 2))), b=Grid(((2, 2), (0, 2), (4, 4))))
        self.says(False, ("rows", "b", "a"), a=Grid(((2, 0), (0, 2))), b=Grid(((2, 0), (0, 1))))
        self.says(True, ("rows", "a", "a"), a=Grid(((2, 0, 1),)))

    def test_alike(self):
        source = lot("alike")
        for grid, other in product(all_grids(2, 2, 2), list(all_grids(2, 2, 2))[::3]):
            self.says(is_alike(grid, other), ("alike", "a", "b"), a=grid, b=other)
        for kind in ("ratio", "rest 97"):
            grid = drawn_grid(kind, 3, 3, source)
            self.says(True, ("alike", "b", "a"), a=grid, b=turned_around(grid, source))
            self.says(False, ("alike", "b", "a"), a=grid, b=one_grid(kind, 2))
            self.says(False, ("alike", "b", "a"), a=grid, b=grid * 2 + 1 * one_grid(kind, 3))
        for kind in NO_FIELDS:
            self.says(False, ("alike", "a", "a"), a=one_grid(kind, 2))
        self.says(False, ("alike", "a", "a"), a=nought_grid("ratio", 2, 3))
        self.says(False, ("alike", "a", "b"), a=one_grid("ratio", 2), b=one_grid("rest 2", 2))

    def test_sums_products_and_commuting(self):
        grids = list(self.some("sums"))
        source = lot("sums again")
        for grid, other in product(grids[::2], grids[::3]):
            kinds, shapes = grid.kind == other.kind, grid.shape == other.shape
            told = grid + other if kinds and shapes else grid
            self.says(kinds and shapes, ("sum", "a", "b", "c"), a=grid, b=other, c=told)
            self.says(kinds and shapes and not grid, ("sum", "a", "b", "b"), a=grid, b=other)
            fits = kinds and grid.shape[1] == other.shape[0]
            told = grid * other if fits else grid
            self.says(fits, ("product", "a", "b", "c"), a=grid, b=other, c=told)
            self.says(fits and told == told * 2, ("product", "a", "b", "c"), a=grid, b=other, c=told * 2)
            both = fits and grid.is_square and shapes and grid * other == other * grid
            self.says(both, ("commute", "a", "b"), a=grid, b=other)
        for kind in KINDS:
            grid = drawn_grid(kind, 3, 3, source)
            self.says(True, ("commute", "a", "b"), a=grid, b=grid * grid)
            wide = drawn_grid(kind, 2, 3, source)
            self.says(False, ("commute", "a", "b"), a=wide, b=wide.turned)
            self.says(False, ("sum", "a", "b", "c"), a=wide, b=wide, c=wide.turned)
            self.says(True, ("product", "a", "b", "c"), a=wide, b=wide.turned, c=wide * wide.turned)
        self.says(False, ("sum", "a", "a", "b"), a=Grid(((1,),)), b=led(Grid(((2,),)), "ratio"))
        self.says(False, ("product", "a", "b", "b"), a=led(Grid(((1,),)), "ratio"), b=Grid(((2,),)))

    def test_one_grid_under_two_names_and_more_grids(self):
        grid = drawn_whole_turning(2, lot("more"))
        self.says(True, ("turning", "second"), first=nought_grid("whole", 2, 2), second=grid, third=grid * 2)
        self.says(True, ("sum", "a", "a", "b"), a=grid, b=grid * 2)


class Refusals(Told):
    def test_pairs(self):
        wish, grid = ("turning", "zz"), one_grid("whole", 2)
        for value in [*[one for one in SPOILT if not isinstance(one, tuple)], Claims(), Refuses(), [("a", grid)], {"a": grid}]:
            self.refuses(InvalidPairs(None), holds, wish=wish, pairs=value)
        for value in [*SPOILT, DEEP, Claims(), ("a",), ("b", grid, 1), ["b", grid], ("b", None), (None, grid), (grid, "b"), ("b", ((1,),)), ("a", grid),
                      (Claims(), grid), (Refuses(), grid), ("b", Refuses())]:
            self.refuses(InvalidPairs(1), holds, wish=wish, pairs=(("a", grid), value, None))
        for name in NO_NAMES:
            self.refuses(InvalidPairs(0), holds, wish=wish, pairs=((name, grid),))
        for name in ("a", "zz", "abcdefgh", "name"):
            self.same(holds(("kind", name, "whole"), ((name, grid),)), True)

    def test_names(self):
        grid = one_grid("whole", 2)
        self.refuses(UnknownName("a"), holds, wish=("turning", "a"), pairs=())
        self.refuses(UnknownName("c"), holds, wish=("sum", "a", "c", "d"), pairs=(("a", grid),))
        self.refuses(UnknownName("A"), holds, wish=("rows", "A", "b"), pairs=(("a", grid),))
        self.refuses(UnknownName(""), holds, wish=("rank", "", 1), pairs=(("a", grid),))
        self.refuses(UnknownName("b"), holds, wish=("commute", "a", "b"), pairs=(("a", nought_grid("rest 6", 1, 2)),))

