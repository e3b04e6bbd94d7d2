from claims import is_so, near
from drawn import (
    FIELDS, all_grids, chains_of_polys, drawn_column, drawn_grid, drawn_number, drawn_of_rank, drawn_turning, drawn_whole, drawn_whole_of_rank,
    drawn_whole_turning, lot, plain_blocks, turned_around,
)
from gridwright.certificates import (
    certify_alike, certify_blocks, certify_common, certify_cores, certify_determinant, certify_least, certify_least_rule, certify_look,
    certify_mate, certify_member, certify_nearest, certify_rank, certify_rows, certify_single, certify_solution, certify_stairs, certify_turning,
    certify_whole_stairs,
)
from gridwright.checker import accepts
from gridwright.columns import Column
from gridwright.cores import core_grid
from gridwright.dets import det
from gridwright.dividing import common
from gridwright.followers import block_form
from gridwright.grids import Grid, nought_grid, one_grid
from gridwright.kinds import written
from gridwright.leading import led
from gridwright.leaning import mate, nearest
from gridwright.looks import Looks, quarrel, sure
from gridwright.polys import Poly
from gridwright.rounds import least_poly
from gridwright.runs import reach
from gridwright.sides import is_turning
from gridwright.similar import is_alike
from gridwright.singles import is_single
from gridwright.stairs import stair_form
from gridwright.wholestairs import whole_stair
from samples import monic_by
from support import Told, same
from test_looks import drawn_looks
from test_runs import drawn_runs

NO_FIELD_RESTS = ("rest 4", "rest 6", "rest 12", "rest 1000000")
X = {kind: Poly(kind, (0, 1)) for kind in ("ratio", "rest 2", "rest 3", "rest 97")}


class Certified(Told):
    """A test case that asks the checker of what a function certifies, and of what is near to it."""

    def certifies(self, call, head, **named):
        """That a pair is told whose claim begins so, by position and by name, and that the checker takes it and nothing false."""
        pair = call(*named.values())
        self.same(same(call(**named), pair) and type(pair) is tuple and len(pair) == 2, True)
        claim, paper = pair
        self.same([claim[:len(head)], accepts(claim, paper), accepts(paper=paper, claim=claim)], [head, True, True])
        self.assertIn(is_so(claim), (True, None), claim)
        self.nothing_false(claim, paper)
        return pair

    def nothing_false(self, claim, paper):
        source = lot(repr(claim)[:200])
        others = list(near(claim, source))
        for other in source.sample(others, min(len(others), 15)):
            if accepts(other, paper):
                self.assertIn(is_so(other), (True, None), (other, paper))
        others = list(near(paper, source))
        for other in source.sample(others, min(len(others), 10)):
            # Another paper may do as well, as the claim is so; but the checker must not fail.
            self.assertIn(accepts(claim, other), (True, False))


class Grids(Certified):
    def test_turning(self):
        for kind in ("whole", *FIELDS, *NO_FIELD_RESTS):
            source = lot(f"certified turning {kind}")
            for size in (1, 2, 3, 5):
                grids = [drawn_grid(kind, size, size, source), nought_grid(kind, size, size), one_grid(kind, size)]
                grids.append(drawn_whole_turning(size, source) if kind == "whole" else drawn_turning(kind, size, source))
                grids += [grids[-1] * 2, -grids[-1], grids[-1] * 3]
                for grid in grids:
                    word = "turning" if is_turning(grid) else "not turning"
                    self.certifies(certify_turning, (word, grid.text), grid=grid)
        self.certifies(certify_turning, ("not turning", "grid whole: 2"), grid=Grid(((2,),)))
        self.certifies(certify_turning, ("turning", "grid whole: -1"), grid=Grid(((-1,),)))
        self.certifies(certify_turning, ("not turning", "grid rest 6: 2 0; 0 3"), grid=led(Grid(((2, 0), (0, 3))), "rest 6"))

    def test_ranks_stairs_and_determinants(self):
        for kind in FIELDS:
            source = lot(f"certified ranks {kind}")
            for height, width in ((1, 1), (1, 3), (3, 1), (2, 2), (3, 3), (2, 4), (4, 3)):
                for wanted in range(min(height, width) + 1):
                    grid = drawn_of_rank(kind, height, width, wanted, source)
                    _, paper = self.certifies(certify_rank, ("rank", grid.text, wanted), grid=grid)
                    self.same(paper == (), wanted == 0)
                    self.certifies(certify_stairs, ("stairs", grid.text, stair_form(grid).text), grid=grid)
                    if height == width:
                        self.certifies(certify_determinant, ("determinant", grid.text, written(det(grid))), grid=grid)
        for size in (1, 8):
            for kind in ("ratio", "rest 2"):
                self.certifies(certify_rank, ("rank",), grid=one_grid(kind, size))
                self.certifies(certify_determinant, ("determinant",), grid=-one_grid(kind, size))
        self.certifies(certify_determinant, ("determinant",), grid=led(Grid(((0, 1, 0), (0, 0, 1), (1, 0, 0))), "ratio"))

    def test_whole_stairs_and_cores(self):
        source = lot("certified whole")
        for height, width in ((1, 1), (1, 3), (3, 1), (2, 2), (3, 3), (2, 4)):
            for wanted in range(min(height, width) + 1):
                grid = drawn_whole_of_rank(height, width, wanted, source)
                self.certifies(certify_whole_stairs, ("whole stairs", grid.text, whole_stair(grid).text), grid=grid)
                self.certifies(certify_cores, ("cores", grid.text, core_grid(grid).text), grid=grid)
        grid = drawn_whole(8, 8, source)
        self.certifies(certify_whole_stairs, ("whole stairs", grid.text), grid=grid)
        self.certifies(certify_cores, ("cores", grid.text), grid=grid)
        for kind in ("poly ratio", "poly rest 3"):
            for height, width in ((1, 1), (2, 2), (2, 3), (3, 2)):
                grid = drawn_grid(kind, height, width, source)
                self.certifies(certify_cores, ("cores", grid.text, core_grid(grid).text), grid=grid)
            self.certifies(certify_cores, ("cores",), grid=nought_grid(kind, 5, 2))

    def test_blocks_and_least_polys(self):
        for kind in FIELDS:
            source = lot(f"certified blocks {kind}")
            for size in (1, 2, 3, 4):
                for polys in list(chains_of_polys(kind, size))[::2]:
                    grid = turned_around(plain_blocks(polys), source)
                    self.certifies(certify_blocks, ("blocks", grid.text, block_form(grid).text), grid=grid)
                    self.certifies(certify_least, ("least", grid.text, least_poly(grid).text), grid=grid)
        for kind in ("ratio", "rest 2"):
            for grid in (one_grid(kind, 8), nought_grid(kind, 1, 1)):
                self.certifies(certify_least, ("least", grid.text), grid=grid)
                self.certifies(certify_blocks, ("blocks", grid.text, grid.text), grid=grid)

    def test_alike_or_not(self):
        for kind in FIELDS:
            source = lot(f"certified alike {kind}")
            for size in (1, 2, 3, 4):
                told = list(chains_of_polys(kind, size))[:4]
                for polys in told:
                    for other in told[:2]:
                        first, second = turned_around(plain_blocks(polys), source), turned_around(plain_blocks(other), source)
                        word = "alike" if polys == other else "not alike"
                        self.certifies(certify_alike, (word, first.text, second.text), grid=first, other=second)
        grids = list(all_grids(2, 2, 2))
        for grid in grids[::3]:
            for other in grids[::3]:
                self.certifies(certify_alike, ("alike" if is_alike(grid, other) else "not alike",), grid=grid, other=other)

    def test_nearest_and_mates(self):
        source = lot("certified nearest")
        for height, width in ((1, 1), (3, 1), (2, 2), (3, 2), (2, 3)):
            for wanted in range(min(height, width) + 1):
                for grid in (drawn_of_rank("ratio", height, width, wanted, source), drawn_whole_of_rank(height, width, wanted, source)):
                    over = led(grid, "ratio")
                    for column in (drawn_column("ratio", height, source), Column((1,) * height)):
                        found = nearest(grid, column)
                        head = ("nearest", over.text, led(column, "ratio").text, found.text)
                        self.certifies(certify_nearest, head, grid=grid, column=column)
                    self.same(self.certifies(certify_mate, ("mate", over.text, mate(grid).text), grid=grid)[1], ())


class Equations(Certified):
    def test_solutions_and_bars(self):
        for kind in ("whole", *FIELDS, *NO_FIELD_RESTS):
            source = lot(f"certified equations {kind}")
            words = []
            for height, width in ((1, 1), (1, 3), (3, 1), (2, 2), (3, 2), (3, 3)):
                for _ in range(3):
                    grid = drawn_grid(kind, height, width, source) if kind != "whole" else drawn_whole(height, width, source, 4)
                    if kind in FIELDS:
                        grid = drawn_of_rank(kind, height, width, source.randint(0, min(height, width)), source)
                    for column in (drawn_column(kind, height, source), grid * drawn_column(kind, width, source), grid.columns[0] * 0):
                        claim, _ = self.certifies(certify_solution, (), grid=grid, column=column)
                        words.append(claim[0])
                        self.same(claim[1:], (grid.text, column.text))
            self.same(set(words), {"solved", "barred"})

    def test_members(self):
        source = lot("certified members")
        words = []
        for height, width in ((1, 1), (1, 3), (3, 1), (2, 2), (3, 2), (3, 3)):
            for wanted in range(min(height, width) + 1):
                grid = drawn_whole_of_rank(height, width, wanted, source)
                for column in (drawn_column("whole", width, source), grid.turned * Column(tuple(source.randint(-3, 3) for _ in range(height)))):
                    claim, _ = self.certifies(certify_member, (), grid=grid, column=column)
                    words.append(claim[0])
                    self.same(claim[1:], (grid.text, column.text))
        self.same(set(words), {"member", "no member"})

    def test_rows(self):
        for kind in ("whole", *FIELDS):
            source = lot(f"certified rows {kind}")
            for height, width in ((1, 1), (2, 3), (3, 2), (3, 3)):
                if kind == "whole":
                    grid, turning = drawn_whole(height, width, source), drawn_whole_turning(height, source)
                else:
                    grid = drawn_of_rank(kind, height, width, min(height, width) - 1, source)
                    turning = drawn_turning(kind, height, source)
                other = turning * grid
                self.certifies(certify_rows, ("rows", grid.text, other.text), grid=grid, other=other)
                more = Grid(other.rows + grid.rows[:1])
                self.certifies(certify_rows, ("rows", more.text, grid.text), grid=more, other=grid)
                self.certifies(certify_rows, ("rows", grid.text, grid.text), grid=grid, other=grid)
            for grid, other in ((one_grid(kind, 2), nought_grid(kind, 2, 2)), (nought_grid(kind, 1, 2), one_grid(kind, 2))):
                self.tells(None, certify_rows, grid=grid, other=other)
        self.tells(None, certify_rows, grid=one_grid("whole", 2), other=one_grid("whole", 2) * 2)
        self.tells(None, certify_rows, grid=one_grid("whole", 2) * 2, other=one_grid("whole", 2))


class PolysAndRuns(Certified):
    def test_common_parts(self):
        for kind in ("ratio", "rest 2", "rest 3", "rest 999983"):
            source = lot(f"certified common {kind}")
            for _ in range(12):
                poly, other, third = [Poly(kind, tuple(drawn_number(kind, source) for _ in range(source.randint(0, 4)))) for _ in range(3)]
                for one, two in ((poly, other), (poly * third, other * third), (poly, poly * 0 + 1), (poly * 0, third + 1), (third, poly * 0)):
                    if one or two:
                        self.certifies(certify_common, ("common", one.text, two.text, common(one, two).text), poly=one, other=two)

    def test_singles_and_parted_ones(self):
        for prime, most in ((2, 5), (3, 3), (5, 2), (7, 2)):
            for poly in monic_by(prime, most):
                if poly.degree > 0:
                    self.certifies(certify_single, ("single" if is_single(poly) else "parted", poly.text), poly=poly)
                    if prime > 2:
                        self.certifies(certify_single, ("single" if is_single(poly) else "parted", (poly * 2).text), poly=poly * 2)
        self.same(certify_single(Poly("rest 5", (1, 2)))[1], ())
        for poly in (Poly("rest 2", (1, 0, 0, 1) + (0,) * 20 + (1,)), Poly("rest 97", (5,) + (0,) * 11 + (1,)), X["rest 2"] ** 24):
            self.certifies(certify_single, ("single" if is_single(poly) else "parted", poly.text), poly=poly)
        six = Poly("rest 2", (1, 1, 0, 0, 0, 0, 1))
        self.same(len(self.certifies(certify_single, ("single", six.text), poly=six)[1]), 2)

    def test_least_rules(self):
        for kind in FIELDS:
            for run in drawn_runs(kind, lot(f"certified rules {kind}")):
                claim, paper = self.certifies(certify_least_rule, ("least rule", kind), kind=kind, run=run)
                degree = reach(kind, run)
                self.same([Poly.read(claim[3]).degree, len(paper)], [degree, len(run) - degree + 1 if degree else 0])
        self.certifies(certify_least_rule, ("least rule", "ratio", ("1/1",)), kind="ratio", run=(1,))
        self.certifies(certify_least_rule, ("least rule", "rest 2", ("0",) * 39 + ("1",)), kind="rest 2", run=(0,) * 39 + (1,))


class Seen(Certified):
    def test_looks(self):
        for kind in FIELDS:
            source = lot(f"certified looks {kind}")
            words = []
            for looks in drawn_looks(kind, source):
                if not looks.pairs:
                    continue
                pairs = tuple((x.text, y.text) for x, y in looks.pairs)
                for column in (drawn_column(kind, looks.shape[1], source), looks.pairs[0][0] * 3, looks.pairs[-1][0] * 0):
                    claim, _ = self.certifies(certify_look, (), looks=looks, column=column)
                    expected = ("quarrel", pairs) if quarrel(looks) is not None else ("open", pairs, column.text)
                    if expected[0] == "open" and sure(looks, column) is not None:
                        expected = ("sure", pairs, column.text, sure(looks, column).text)
                    self.same(claim, expected)
                    words.append(claim[0])
            self.same(set(words), {"quarrel", "open", "sure"})
        x, y = led(Column((1, 2)), "rest 3"), led(Column((1,)), "rest 3")
        twelve = Looks("rest 3", (1, 2), ((x, y),) * 12)
        self.certifies(certify_look, ("sure",), looks=twelve, column=x)
        self.certifies(certify_look, ("open",), looks=twelve, column=led(Column((1, 0)), "rest 3"))
        self.certifies(certify_look, ("quarrel",), looks=Looks("rest 3", (1, 2), ((x * 0, y),)), column=x)
