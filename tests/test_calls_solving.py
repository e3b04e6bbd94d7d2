"""The order of errors, what is told and that nothing changes, of all calls about equations, roots and whole grids."""

from calls import COLUMN, G, GRID, OTHER, POLY, PRIME, WIDE, A, CallTables, W, but, given
from gridwright import errors
from gridwright.columns import Column
from gridwright.grids import Grid, nought_grid
from gridwright.halves import inner_inverse, left_inverse, lower_upper, ordered_triangles, right_inverse
from gridwright.lattices import (
    common_minor, completed, filled, is_filled, lattice_index, lattice_meet, lattice_sum, lies_within, member_bar, member_by,
    plain_base, plain_member, same_lattice,
)
from gridwright.leading import led
from gridwright.polys import Poly
from gridwright.ratios import Ratio
from gridwright.resultants import gap, resultant, table_of
from gridwright.rests import Rest
from gridwright.singles import count_singles, is_single, keeping_grid, number_of_singles, roots_of, singles
from gridwright.solving import bar, nought_base, solution, solution_at, solutions_number, solve_grid
from gridwright.stretches import count_real, narrowed, ratio_roots, signs_row, stretches
from gridwright.wholesolving import whole_bar, whole_noughts, whole_solution
from gridwright.wholestairs import is_whole_stair, whole_rank, whole_stair, whole_turning
from support import Told

THREE = {kind: Column(led(Column((1, 2, 3)), kind).entries) for kind in ("whole", "ratio", "rest 3", "rest 6")}
TWO = {kind: led(Column((1, 2)), kind) for kind in ("whole", "ratio", "rest 3", "rest 5", "rest 6", "poly rest 3")}
SQUARE = {kind: led(W, kind) for kind in ("whole", "ratio", "rest 3", "rest 5", "rest 6", "poly rest 3", "poly ratio")}
LONG = {kind: nought_grid(kind, 2, 3) for kind in ("whole", "ratio", "rest 3", "rest 6")}
TALL = {kind: nought_grid(kind, 3, 2) for kind in ("whole", "ratio", "rest 3")}
FLAT = led(Grid(((1, 1), (1, 1))), "ratio")
P = {kind: Poly(kind, (-1, 0, 1)) for kind in ("whole", "ratio", "rest 3", "rest 5", "rest 101")}
NOUGHT = {kind: Poly(kind, ()) for kind in P}
FOUR = Poly("rest 3", (4,))


def monic(kind, degree):
    return Poly(kind, (0,) * degree + (1,))


DEGREE = given("InvalidNumber", 0, -1, 25, Ratio(2))
END = but(given("InvalidNumber", (1, 2), Rest(1, 3), Poly("ratio", (1,))), None, 10 ** 59)
WIDTH = but(given("InvalidNumber", 0, -1, Ratio(0), Ratio(-1, 2), Rest(1, 3)), 10 ** 59)
SIZE = given("InvalidNumber", 0, -1, 3, Ratio(1))

CALLS = (
    *[(call, {"grid": (G, GRID)}) for call in (
        nought_base, left_inverse, right_inverse, inner_inverse, lower_upper, ordered_triangles)],
    *[(call, {"grid": (G, GRID), "column": (A, COLUMN)}) for call in (solution, bar)],
    (solutions_number, {"grid": (SQUARE["rest 3"], GRID), "column": (TWO["rest 3"], COLUMN)}),
    (solution_at, {"grid": (SQUARE["rest 3"], GRID), "column": (TWO["rest 3"], COLUMN), "index": (0, [])}),
    (solve_grid, {"grid": (G, GRID), "other": (OTHER, GRID)}),
    *[(call, {"poly": (P["ratio"], POLY), "other": (P["ratio"], POLY)}) for call in (table_of, resultant)],
    *[(call, {"poly": (P["ratio"], POLY)}) for call in (gap, ratio_roots, signs_row, stretches)],
    *[(call, {"poly": (P["rest 3"], POLY)}) for call in (singles, count_singles, is_single, keeping_grid, roots_of)],
    (number_of_singles, {"prime": (3, PRIME), "degree": (4, DEGREE)}),
    (count_real, {"poly": (P["ratio"], POLY), "low": (0, END), "high": (Ratio(2), END)}),
    (narrowed, {"poly": (P["ratio"], POLY), "low": (0, END), "high": (Ratio(2), END), "width": (Ratio(1, 9), WIDTH)}),
    *[(call, {"grid": (W, GRID)}) for call in (
        whole_stair, whole_turning, is_whole_stair, whole_rank, plain_base, filled, is_filled, completed, whole_noughts)],
    *[(call, {"grid": (W, GRID), "other": (SQUARE["whole"], GRID)}) for call in (
        same_lattice, lies_within, lattice_sum, lattice_meet, lattice_index)],
    *[(call, {"grid": (W, GRID), "column": (TWO["whole"], COLUMN)}) for call in (
        member_by, member_bar, plain_member, whole_solution, whole_bar)],
    (common_minor, {"grid": (W, GRID), "size": (1, SIZE)}),
)
EQUATIONS = [row for call in (solution, bar) for row in (
    (call, {"grid": LONG["whole"], "column": THREE["rest 6"]}, errors.NotAField("whole")),
    (call, {"grid": LONG["ratio"], "column": THREE["rest 6"]}, errors.NotAField("rest 6")),
    (call, {"grid": SQUARE["poly ratio"], "column": A}, errors.NotAField("poly ratio")),
    (call, {"grid": LONG["ratio"], "column": THREE["rest 3"]}, errors.Unlike("ratio", "rest 3")),
    (call, {"grid": LONG["ratio"], "column": THREE["ratio"]}, errors.InvalidShape((2, 3), (3, 1))),
    (call, {"grid": TALL["ratio"], "column": A}, errors.InvalidShape((3, 2), (2, 1))),
)]
COUNTED = [row for call, more in ((solutions_number, {}), (solution_at, {"index": None})) for row in (
    (call, {"grid": LONG["ratio"], "column": THREE["rest 6"], **more}, errors.NotRests("ratio")),
    (call, {"grid": LONG["rest 6"], "column": THREE["whole"], **more}, errors.NotRests("whole")),
    (call, {"grid": SQUARE["poly rest 3"], "column": TWO["rest 6"], **more}, errors.NotRests("poly rest 3")),
    (call, {"grid": LONG["rest 6"], "column": THREE["rest 3"], **more}, errors.NotAField("rest 6")),
    (call, {"grid": LONG["rest 3"], "column": THREE["rest 6"], **more}, errors.NotAField("rest 6")),
    (call, {"grid": LONG["rest 3"], "column": TWO["rest 5"], **more}, errors.Unlike("rest 3", "rest 5")),
    (call, {"grid": LONG["rest 3"], "column": THREE["rest 3"], **more}, errors.InvalidShape((2, 3), (3, 1))),
)]
HALVES = (
    (nought_base, {"grid": W}, errors.NotAField("whole")),
    (left_inverse, {"grid": LONG["rest 6"]}, errors.NotAField("rest 6")),
    (left_inverse, {"grid": LONG["ratio"]}, errors.NoInverse()),
    (left_inverse, {"grid": FLAT}, errors.NoInverse()),
    (right_inverse, {"grid": TALL["whole"]}, errors.NotAField("whole")),
    (right_inverse, {"grid": TALL["ratio"]}, errors.NoInverse()),
    (inner_inverse, {"grid": SQUARE["poly ratio"]}, errors.NotAField("poly ratio")),
    (lower_upper, {"grid": LONG["whole"]}, errors.NotAField("whole")),
    (lower_upper, {"grid": LONG["ratio"]}, errors.NotSquare((2, 3))),
    (lower_upper, {"grid": nought_grid("ratio", 2, 2)}, errors.NoTriangles(1)),
    (ordered_triangles, {"grid": LONG["whole"]}, errors.NotAField("whole")),
    (ordered_triangles, {"grid": TALL["ratio"]}, errors.NotSquare((3, 2))),
    (solve_grid, {"grid": LONG["whole"], "other": TALL["ratio"]}, errors.NotAField("whole")),
    (solve_grid, {"grid": LONG["ratio"], "other": TALL["whole"]}, errors.NotAField("whole")),
    (solve_grid, {"grid": LONG["ratio"], "other": TALL["rest 3"]}, errors.Unlike("ratio", "rest 3")),
    (solve_grid, {"grid": LONG["ratio"], "other": TALL["ratio"]}, errors.InvalidShape((2, 3), (3, 2))),
)
ROOTS = (
    *[row for call in (table_of, resultant) for row in (
        (call, {"poly": NOUGHT["ratio"], "other": NOUGHT["whole"]}, errors.Unlike("ratio", "whole")),
        (call, {"poly": P["rest 5"], "other": P["rest 3"]}, errors.Unlike("rest 5", "rest 3")),
        (call, {"poly": NOUGHT["ratio"], "other": monic("ratio", 9)}, errors.Nought()),
        (call, {"poly": monic("ratio", 9), "other": NOUGHT["ratio"]}, errors.Nought()),
    )],
    (table_of, {"poly": monic("whole", 9), "other": P["whole"]}, errors.TooMany(11)),
    (table_of, {"poly": monic("rest 3", 8), "other": monic("rest 3", 1)}, errors.TooMany(9)),
    (table_of, {"poly": monic("whole", 0), "other": monic("whole", 0)}, errors.Nought()),
    (gap, {"poly": NOUGHT["rest 3"]}, errors.NotOrdered("rest 3")),
    (gap, {"poly": NOUGHT["whole"]}, errors.Nought()),
    (gap, {"poly": monic("whole", 0)}, errors.NotMonic(monic("whole", 0))),
    *[row for call in (singles, count_singles, is_single, keeping_grid, roots_of) for row in (
        (call, {"poly": NOUGHT["ratio"]}, errors.NotRests("ratio")),
        (call, {"poly": NOUGHT["whole"]}, errors.NotRests("whole")),
        (call, {"poly": NOUGHT["rest 101"]}, errors.NotRests("rest 101")),
        (call, {"poly": NOUGHT["rest 3"]}, errors.Nought()),
    )],
    *[(call, {"poly": monic("rest 97", 25)}, errors.TooMany(25)) for call in (singles, count_singles, is_single)],
    (keeping_grid, {"poly": FOUR * monic("rest 3", 9) * 2}, errors.NotMonic(monic("rest 3", 9) * 2)),
    (keeping_grid, {"poly": monic("rest 3", 0)}, errors.NotMonic(monic("rest 3", 0))),
    (keeping_grid, {"poly": monic("rest 3", 9)}, errors.TooMany(9)),
    *[row for call in (ratio_roots, signs_row, stretches) for row in (
        (call, {"poly": NOUGHT["whole"]}, errors.NotOrdered("whole")),
        (call, {"poly": P["rest 3"]}, errors.NotOrdered("rest 3")),
        (call, {"poly": NOUGHT["ratio"]}, errors.Nought()),
    )],
    (signs_row, {"poly": Poly("ratio", (2,))}, errors.NotMonic(Poly("ratio", (2,)))),
    *[row for call, more in ((count_real, {}), (narrowed, {"width": 1})) for row in (
        (call, {"poly": NOUGHT["whole"], "low": 2, "high": 1, **more}, errors.NotOrdered("whole")),
        (call, {"poly": NOUGHT["ratio"], "low": 2, "high": 1, **more}, errors.Nought()),
        (call, {"poly": P["ratio"], "low": Ratio(3, 2), "high": 1, **more}, errors.InvalidNumber(Ratio(3, 2))),
        (call, {"poly": P["ratio"], "low": 2, "high": Ratio(3, 2), **more}, errors.InvalidNumber(2)),
    )],
    (narrowed, {"poly": P["ratio"], "low": None, "high": None, "width": 1}, errors.NoSuchRoot()),
    (narrowed, {"poly": monic("ratio", 0), "low": None, "high": None, "width": 1}, errors.NoSuchRoot()),
)
WHOLE = (
    *[(call, {"grid": grid}, errors.NotWhole(grid.kind)) for call in (
        whole_stair, whole_turning, is_whole_stair, whole_rank, plain_base, filled, is_filled, completed, whole_noughts)
      for grid in (G, SQUARE["rest 3"], SQUARE["poly ratio"], WIDE["poly whole"])],
    *[row for call in (same_lattice, lies_within, lattice_sum, lattice_meet, lattice_index) for row in (
        (call, {"grid": G, "other": LONG["rest 3"]}, errors.NotWhole("ratio")),
        (call, {"grid": W, "other": LONG["rest 3"]}, errors.NotWhole("rest 3")),
        (call, {"grid": W, "other": LONG["whole"]}, errors.InvalidShape((2, 2), (2, 3))),
    )],
    *[row for call in (member_by, member_bar, plain_member) for row in (
        (call, {"grid": LONG["ratio"], "column": TWO["rest 3"]}, errors.NotWhole("ratio")),
        (call, {"grid": LONG["whole"], "column": TWO["rest 3"]}, errors.NotWhole("rest 3")),
        (call, {"grid": LONG["whole"], "column": TWO["whole"]}, errors.InvalidShape((2, 3), (2, 1))),
    )],
    *[row for call in (whole_solution, whole_bar) for row in (
        (call, {"grid": LONG["ratio"], "column": THREE["rest 3"]}, errors.NotWhole("ratio")),
        (call, {"grid": LONG["whole"], "column": THREE["rest 3"]}, errors.NotWhole("rest 3")),
        (call, {"grid": LONG["whole"], "column": THREE["whole"]}, errors.InvalidShape((2, 3), (3, 1))),
    )],
    (lattice_index, {"grid": W, "other": nought_grid("whole", 1, 2)}, errors.NotWithin()),
    (common_minor, {"grid": G, "size": 1}, errors.NotWhole("ratio")),
)


class Calls(CallTables, Told):
    CALLS = CALLS
    LATER = (*EQUATIONS, *COUNTED, *HALVES, *ROOTS, *WHOLE)

    def test_no_index_of_a_solution_is_told_last(self):
        grid, column = led(Grid(((1, 1), (1, 1))), "rest 3"), led(Column((1, 1)), "rest 3")
        for value in (None, True, "0", (0,), [], {}, object(), -1, 3, 10 ** 70, Ratio(0), Rest(0, 3)):
            self.refuses(errors.InvalidIndex(value), solution_at, grid=grid, column=column, index=value)
            self.refuses(errors.InvalidIndex(value), solution_at, grid=grid, column=TWO["rest 3"], index=value)
        self.refuses(errors.InvalidIndex(0), solution_at, grid=grid, column=TWO["rest 3"], index=0)
        self.tells(led(Column((2, 2)), "rest 3"), solution_at, grid=grid, column=column, index=2)
