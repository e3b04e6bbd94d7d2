from itertools import combinations, product

from drawn import (
    drawn_whole, drawn_whole_of_rank, drawn_whole_turning, is_member, lot, plain_rank, stands_in_whole_stairs,
)
from gridwright.dets import det
from gridwright.errors import NotAGrid, NotWhole
from gridwright.grids import Grid, nought_grid, one_grid
from gridwright.leading import led
from gridwright.sides import is_turning
from gridwright.stairs import rank, stair_form
from gridwright.wholestairs import is_whole_stair, whole_rank, whole_stair, whole_turning
from support import Told
from test_grids import NO_GRIDS

CALLS = (whole_stair, whole_turning, is_whole_stair, whole_rank)
SHAPES = ((1, 1), (1, 5), (5, 1), (2, 3), (3, 2), (3, 3), (4, 6), (8, 8), (8, 3), (3, 8))
FAR = 10 ** 30


def some_grids(name):
    source = lot(name)
    for height, width in SHAPES:
        for wanted in sorted({0, 1, min(height, width) - 1, min(height, width)}):
            yield drawn_whole_of_rank(height, width, wanted, source)
        yield drawn_whole(height, width, source, 2)
        yield drawn_whole(height, width, source, FAR)


class WholeStairs(Told):
    def test_they_stand_in_whole_stairs_and_the_turning_grid_leads_there(self):
        for grid in some_grids("whole stairs"):
            form = whole_stair(grid)
            self.tells(form, whole_stair, grid=grid)
            self.same([form.kind, form.shape, stands_in_whole_stairs(form)], ["whole", grid.shape, True])
            for turning in (whole_turning(grid), whole_turning(grid=grid)):
                self.same([turning.kind, turning.shape], ["whole", (len(grid), len(grid))])
                self.same([turning * grid, det(turning) in (1, -1)], [form, True])
            self.same([whole_stair(form), is_whole_stair(form)], [form, True])

    def test_steps_of_rows_lead_to_the_same(self):
        source = lot("whole steps")
        for grid in some_grids("steps of rows"):
            form = whole_stair(grid)
            for _ in range(2):
                self.same(whole_stair(drawn_whole_turning(len(grid), source) * grid), form)

    def test_single_steps(self):
        grid = drawn_whole(4, 4, lot("single whole steps"))
        form = whole_stair(grid)
        for i, j in combinations(range(4), 2):
            rows = list(grid.rows)
            rows[i], rows[j] = rows[j], rows[i]
            self.same(whole_stair(Grid(tuple(rows))), form)
            rows[i] = tuple(a - 3 * b for a, b in zip(rows[i], rows[j]))
            rows[j] = tuple(-a for a in rows[j])
            self.same(whole_stair(Grid(tuple(rows))), form)

    def test_twice_a_row_leads_elsewhere(self):
        self.same(whole_stair(Grid(((1, 3), (0, 6)))) == whole_stair(Grid(((2, 6), (0, 6)))), False)

    def test_only_one_of_each_lattice(self):
        # Of all small grids those with one lattice have one form: their rows are members of one another's.
        grids = [Grid((first, other)) for first, other in product(product(range(-1, 3), repeat=2), repeat=2)]
        forms = {}
        for grid in grids:
            forms.setdefault(whole_stair(grid).text, []).append(grid)
        firsts = [same[0] for same in forms.values()]
        for same_form in forms.values():
            for grid in same_form:
                self.same([is_member(same_form[0], row) for row in grid.rows], [True, True])
                self.same([is_member(grid, row) for row in same_form[0].rows], [True, True])
        for grid, other in combinations(firsts, 2):
            within = [is_member(grid, row) for row in other.rows] + [is_member(other, row) for row in grid.rows]
            self.same(all(within), False)

    def test_ranks(self):
        for grid in some_grids("whole ranks"):
            found = whole_rank(grid)
            self.tells(rank(led(grid, "ratio")), whole_rank, grid=grid)
            self.same(found, len([row for row in whole_stair(grid).rows if any(row)]))
            if max(grid.shape) < 4:
                self.same(found, plain_rank(grid))

    def test_places_of_pivots_are_the_step_places(self):
        for grid in some_grids("pivots"):
            places = [[k for k, number in enumerate(row) if number][:1] for row in whole_stair(grid).rows]
            over_ratios = [[k for k, number in enumerate(row) if number][:1] for row in stair_form(led(grid, "ratio")).rows]
            self.same(places, over_ratios)

    def test_the_edges(self):
        self.tells(Grid(((0,),)), whole_stair, grid=Grid(((0,),)))
        self.tells(Grid(((7,),)), whole_stair, grid=Grid(((-7,),)))
        self.tells(Grid(((-1,),)), whole_turning, grid=Grid(((-7,),)))
        self.tells(Grid(((6,), (0,), (0,))), whole_stair, grid=Grid(((-12,), (18,), (30,))))
        self.tells(nought_grid("whole", 8, 8), whole_stair, grid=nought_grid("whole", 8, 8))
        self.tells(0, whole_rank, grid=nought_grid("whole", 8, 8))
        turning = drawn_whole_turning(8, lot("a turning grid"), 60)
        self.tells(one_grid("whole", 8), whole_stair, grid=turning)
        self.same(whole_turning(turning), turning ** -1)

    def test_whether_a_grid_stands_so(self):
        standing = ((1, 3), (0, 6)), ((0, 2, 1), (0, 0, 3)), ((0, 0), (0, 0)), ((5, 0), (0, 0)), ((1, 0), (0, 1)), ((2, 1), (0, 2))
        for rows in standing:
            self.tells(True, is_whole_stair, grid=Grid(rows))
        for rows in (((1, 6), (0, 6)), ((1, -1), (0, 6)), ((-1, 0), (0, 6)), ((0, 0), (1, 0)), ((0, 1), (1, 0)), ((1, 0), (1, 1)),
                     ((2, 2), (0, 2)), ((0, -3), (0, 0))):
            self.tells(False, is_whole_stair, grid=Grid(rows))
        for rows in product(product(range(-1, 3), repeat=2), repeat=2):
            self.same(is_whole_stair(Grid(rows)), stands_in_whole_stairs(Grid(rows)))

    def test_turning_grids_exactly_by_the_determinant(self):
        source = lot("whole turning grids")
        for size in (1, 2, 3, 5):
            for grid in [drawn_whole(size, size, source, 2) for _ in range(8)] + [drawn_whole_turning(size, source)]:
                self.same(det(grid) in (1, -1), is_turning(grid))
                self.same(whole_stair(grid) == one_grid("whole", size), is_turning(grid))


class Refusals(Told):
    def test_no_grids_and_no_whole_ones(self):
        for call in CALLS:
            for value in NO_GRIDS:
                self.refuses(NotAGrid(value), call, grid=value)
            for kind in ("ratio", "rest 2", "rest 6", "poly whole", "poly ratio"):
                self.refuses(NotWhole(kind), call, grid=nought_grid(kind, 2, 3))
