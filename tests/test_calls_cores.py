"""The order of errors, what is told and that nothing changes, of all calls about cores, groups, rests and block forms."""

from calls import (
    COLUMN, COLUMNS, G, GRID, GROUP, OTHER, POLY, PRIME, SIDE, A, CallTables, W, but, given, indexed,
)
from gridwright import errors
from gridwright.columns import Column
from gridwright.cores import are_led, core_grid, core_numbers, core_turnings, parting_size
from gridwright.followers import block_form, block_turning, core_polys, follower, follower_blocks
from gridwright.grids import Grid, nought_grid
from gridwright.groups import (
    Group, are_alike, count_of_order, group_sum, leads_number, makers, members, without,
)
from gridwright.leading import led
from gridwright.letters import diagonal_sums, letter_grid, own_poly, poly_at, poly_on
from gridwright.lifting import lifted_inverse, parted, put_together, turning_at, turnings_number
from gridwright.polys import Poly
from gridwright.ratios import Ratio
from gridwright.restsolving import (
    all_rest_solutions, are_rest_led, first_rest_solution, rest_bar, rest_cores, rest_solutions,
)
from gridwright.rests import Rest
from gridwright.rounds import column_poly, full_column, is_kept, kept_base, least_poly, round_of
from gridwright.similar import is_alike, leading_grid, poly_rank, telling_poly
from gridwright.sublattices import lattice_at, lattices_number, place_of_lattice
from support import Told

KINDS = ("whole", "ratio", "rest 3", "rest 5", "rest 6", "rest 10", "poly whole", "poly ratio", "poly rest 3")
TWO = {kind: led(Column((1, 2)), kind) for kind in KINDS}
THREE = {kind: led(Column((1, 2, 3)), kind) for kind in KINDS}
SQUARE = {kind: led(W, kind) for kind in KINDS}
LONG = {kind: nought_grid(kind, 2, 3) for kind in KINDS}
TALL = {kind: nought_grid(kind, 3, 2) for kind in KINDS}
GREAT = {kind: nought_grid(kind, 3, 3) for kind in KINDS}
SIX = nought_grid("poly ratio", 2, 6)
FINE, ENDLESS, MANY = Group(Grid(((2, 4), (6, 8)))), Group(Grid(((1, 2),))), Group(Grid(((401,),)))
WIDE_GROUP, HIGH_GROUP = Group(nought_grid("whole", 1, 7)), Group(nought_grid("whole", 8, 1))
P = {kind: Poly(kind, (-1, 0, 1)) for kind in ("whole", "ratio", "rest 3", "rest 5")}
X = Poly("ratio", (0, 1))


def monic(kind, degree):
    return Poly(kind, (0,) * degree + (1,))


ANY_INDEX = given("InvalidNumber", 0, -1, Ratio(1), 10 ** 12 + 1)
NEAR_INDEX = given("InvalidNumber", 0, -1, Ratio(1), 401)
LATER_PLACE = given("InvalidIndex", -1, 3, Ratio(0))
ORDER = but(given("InvalidNumber", 0, -1, Ratio(1)), 10 ** 59)
POWER = given("InvalidNumber", 0, -1, 21, Ratio(1))
MODULUS = given("InvalidNumber", 0, 1, -2, 10 ** 6 + 1, Ratio(2))
FEW = given("InvalidNumber", 0, 4, -1, Ratio(1))
SMALL_PRIME = given("InvalidNumber", 0, 1, 4, 11, 9, Ratio(2))
RESTS = (led(W, "rest 4"), led(W, "rest 9"))
GRIDS = indexed(
    "InvalidGrids", ((RESTS[0], W), 1), ((RESTS[0], LONG["rest 3"]), 1), ((RESTS[0], RESTS[0]), 1), ((W,), 0),
    ((RESTS[0], led(W, "rest 25"), led(W, "rest 10")), 2), ((G,), 0), ((SQUARE["poly rest 3"],), 0))
POLYS = indexed(
    "InvalidPolys", ((X, P["ratio"]), 1), ((P["whole"],), 0), ((X, Poly("rest 3", (0, 1))), 1), ((Poly("ratio", (1,)),), 0),
    ((Poly("ratio", ()),), 0), ((X, Poly("ratio", (0, 2))), 1), ((X * X, X), 1), ((X, X, None), 2))

CALLS = (
    (lattices_number, {"size": (2, SIDE), "index": (6, ANY_INDEX)}),
    (lattice_at, {"size": (2, SIDE), "index": (2, NEAR_INDEX), "place": (1, LATER_PLACE)}),
    (place_of_lattice, {"grid": (W, GRID)}),
    *[(call, {"grid": (W, GRID)}) for call in (core_numbers, core_grid, core_turnings)],
    *[(call, {"grid": (SQUARE["poly ratio"], GRID), "other": (nought_grid("poly ratio", 2, 2), GRID)}) for call in (
        are_led, parting_size)],
    (Group, {"relations": (W, GRID)}),
    (FINE.plain, {"column": (TWO["whole"], COLUMN)}),
    (FINE.order_of, {"column": (TWO["whole"], COLUMN)}),
    *[(call, {"group": (FINE, GROUP), "other": (ENDLESS, GROUP)}) for call in (are_alike, leads_number, group_sum)],
    *[(call, {"group": (FINE, GROUP)}) for call in (members, makers)],
    (count_of_order, {"group": (FINE, GROUP), "order": (2, ORDER)}),
    (without, {"group": (FINE, GROUP), "column": (TWO["whole"], COLUMN)}),
    (rest_cores, {"grid": (SQUARE["rest 6"], GRID)}),
    (are_rest_led, {"grid": (SQUARE["rest 6"], GRID), "other": (SQUARE["rest 6"], GRID)}),
    *[(call, {"grid": (SQUARE["rest 6"], GRID), "column": (TWO["rest 6"], COLUMN)}) for call in (
        rest_solutions, first_rest_solution, all_rest_solutions, rest_bar)],
    (parted, {"grid": (SQUARE["rest 6"], GRID)}),
    (put_together, {"grids": (RESTS, GRIDS)}),
    (lifted_inverse, {"grid": (W, GRID), "prime": (3, PRIME), "power": (2, POWER)}),
    (turnings_number, {"size": (2, SIDE), "modulus": (4, MODULUS)}),
    (turning_at, {"size": (1, FEW), "prime": (3, SMALL_PRIME), "index": (1, given("InvalidIndex", -1, 2, Ratio(0)))}),
    *[(call, {"grid": (G, GRID)}) for call in (
        letter_grid, own_poly, diagonal_sums, least_poly, full_column, core_polys, block_form, block_turning)],
    (poly_at, {"poly": (P["ratio"], POLY), "grid": (G, GRID)}),
    (poly_rank, {"poly": (P["ratio"], POLY), "grid": (G, GRID)}),
    (poly_on, {"poly": (P["ratio"], POLY), "grid": (G, GRID), "column": (A, COLUMN)}),
    *[(call, {"grid": (G, GRID), "column": (A, COLUMN)}) for call in (column_poly, round_of)],
    *[(call, {"grid": (G, GRID), "columns": ((A, A), COLUMNS)}) for call in (kept_base, is_kept)],
    (follower, {"poly": (P["ratio"], POLY)}),
    (follower_blocks, {"polys": ((X, X * X), POLYS)}),
    *[(call, {"grid": (G, GRID), "other": (OTHER, GRID)}) for call in (is_alike, leading_grid, telling_poly)],
)
CORES = (
    (place_of_lattice, {"grid": LONG["ratio"]}, errors.NotWhole("ratio")),
    (place_of_lattice, {"grid": LONG["whole"]}, errors.NotSquare((2, 3))),
    (place_of_lattice, {"grid": nought_grid("whole", 2, 2)}, errors.Nought()),
    (place_of_lattice, {"grid": Grid(((401,),))}, errors.TooMany(401)),
    *[(call, {"grid": SQUARE[kind]}, errors.NotWhole(kind)) for call in (core_numbers, core_grid, core_turnings)
      for kind in ("ratio", "rest 3", "rest 6", "poly whole")],
    *[(call, {"grid": SIX}, errors.TooMany(6)) for call in (core_numbers, core_grid, core_turnings)],
    *[row for call in (are_led, parting_size) for row in (
        (call, {"grid": SQUARE["ratio"], "other": LONG["poly whole"]}, errors.NotWhole("ratio")),
        (call, {"grid": W, "other": LONG["poly whole"]}, errors.NotWhole("poly whole")),
        (call, {"grid": SIX, "other": LONG["whole"]}, errors.Unlike("poly ratio", "whole")),
        (call, {"grid": SIX, "other": LONG["poly rest 3"]}, errors.Unlike("poly ratio", "poly rest 3")),
        (call, {"grid": SIX, "other": LONG["poly ratio"]}, errors.InvalidShape((2, 6), (2, 3))),
        (call, {"grid": SIX, "other": SIX}, errors.TooMany(6)),
    )],
)
GROUPS = (
    (Group, {"relations": G}, errors.NotWhole("ratio")),
    *[row for call in (FINE.plain, FINE.order_of) for row in (
        (call, {"column": THREE["ratio"]}, errors.NotWhole("ratio")),
        (call, {"column": THREE["whole"]}, errors.InvalidShape((2, 2), (3, 1))),
    )],
    (members, {"group": ENDLESS}, errors.TooMany(None)),
    (members, {"group": MANY}, errors.TooMany(401)),
    (group_sum, {"group": FINE, "other": WIDE_GROUP}, errors.TooMany(9)),
    (group_sum, {"group": HIGH_GROUP, "other": WIDE_GROUP}, errors.TooMany(9)),
    (group_sum, {"group": HIGH_GROUP, "other": FINE}, errors.TooMany(10)),
    (without, {"group": HIGH_GROUP, "column": THREE["rest 3"]}, errors.NotWhole("rest 3")),
    (without, {"group": HIGH_GROUP, "column": THREE["whole"]}, errors.InvalidShape((8, 1), (3, 1))),
    (without, {"group": HIGH_GROUP, "column": Column((1,))}, errors.TooMany(9)),
)
RESTED = (
    (rest_cores, {"grid": G}, errors.NotRests("ratio")),
    (parted, {"grid": SQUARE["poly rest 3"]}, errors.NotRests("poly rest 3")),
    (are_rest_led, {"grid": SQUARE["whole"], "other": LONG["ratio"]}, errors.NotRests("whole")),
    (are_rest_led, {"grid": SQUARE["rest 3"], "other": LONG["ratio"]}, errors.NotRests("ratio")),
    (are_rest_led, {"grid": SQUARE["rest 3"], "other": LONG["rest 6"]}, errors.Unlike("rest 3", "rest 6")),
    (are_rest_led, {"grid": SQUARE["rest 6"], "other": LONG["rest 6"]}, errors.InvalidShape((2, 2), (2, 3))),
    *[row for call in (rest_solutions, first_rest_solution, all_rest_solutions, rest_bar) for row in (
        (call, {"grid": LONG["ratio"], "column": THREE["whole"]}, errors.NotRests("ratio")),
        (call, {"grid": LONG["rest 6"], "column": THREE["whole"]}, errors.NotRests("whole")),
        (call, {"grid": LONG["rest 6"], "column": THREE["rest 3"]}, errors.Unlike("rest 6", "rest 3")),
        (call, {"grid": LONG["rest 6"], "column": THREE["rest 6"]}, errors.InvalidShape((2, 3), (3, 1))),
    )],
    (all_rest_solutions, {"grid": nought_grid("rest 401", 1, 1), "column": Column((Rest(0, 401),))}, errors.TooMany(401)),
    (put_together, {"grids": (nought_grid("rest 1000", 1, 1), nought_grid("rest 1001", 1, 1))}, errors.TooMany(1001000)),
    (lifted_inverse, {"grid": LONG["ratio"], "prime": 3, "power": 2}, errors.NotWhole("ratio")),
    (lifted_inverse, {"grid": LONG["whole"], "prime": 3, "power": 2}, errors.NotSquare((2, 3))),
    (lifted_inverse, {"grid": Grid(((3, 0), (0, 1))), "prime": 3, "power": 2}, errors.NoInverse()),
)
FORMS = (
    *[row for call in (letter_grid, own_poly) for row in (
        (call, {"grid": LONG["rest 6"]}, errors.NotAField("rest 6")),
        (call, {"grid": LONG["poly ratio"]}, errors.NotAField("poly ratio")),
        (call, {"grid": LONG["whole"]}, errors.NotSquare((2, 3))),
    )],
    (diagonal_sums, {"grid": LONG["rest 6"]}, errors.NotSquare((2, 3))),
    *[row for call in (least_poly, full_column, core_polys, block_form, block_turning) for row in (
        (call, {"grid": LONG["whole"]}, errors.NotAField("whole")),
        (call, {"grid": LONG["poly rest 3"]}, errors.NotAField("poly rest 3")),
        (call, {"grid": LONG["ratio"]}, errors.NotSquare((2, 3))),
    )],
    (poly_at, {"poly": P["whole"], "grid": LONG["rest 6"]}, errors.Unlike("whole", "rest 6")),
    (poly_at, {"poly": P["ratio"], "grid": LONG["poly ratio"]}, errors.Unlike("ratio", "poly ratio")),
    (poly_at, {"poly": P["whole"], "grid": LONG["whole"]}, errors.NotSquare((2, 3))),
    (poly_on, {"poly": P["whole"], "grid": LONG["ratio"], "column": TWO["rest 3"]}, errors.Unlike("whole", "ratio")),
    (poly_on, {"poly": P["ratio"], "grid": LONG["ratio"], "column": TWO["rest 3"]}, errors.Unlike("ratio", "rest 3")),
    (poly_on, {"poly": P["ratio"], "grid": LONG["ratio"], "column": TWO["ratio"]}, errors.NotSquare((2, 3))),
    (poly_on, {"poly": P["ratio"], "grid": G, "column": THREE["ratio"]}, errors.InvalidShape((2, 2), (3, 1))),
    (poly_rank, {"poly": P["whole"], "grid": LONG["rest 6"]}, errors.NotAField("whole")),
    (poly_rank, {"poly": P["ratio"], "grid": LONG["rest 6"]}, errors.NotAField("rest 6")),
    (poly_rank, {"poly": P["ratio"], "grid": LONG["rest 3"]}, errors.Unlike("ratio", "rest 3")),
    (poly_rank, {"poly": P["ratio"], "grid": LONG["ratio"]}, errors.NotSquare((2, 3))),
    *[row for call, name, wrap in (
        (column_poly, "column", lambda column: column), (round_of, "column", lambda column: column),
        (kept_base, "columns", lambda column: (column, column)), (is_kept, "columns", lambda column: (column,)),
    ) for row in (
        (call, {"grid": LONG["whole"], name: wrap(TWO["rest 6"])}, errors.NotAField("whole")),
        (call, {"grid": LONG["ratio"], name: wrap(TWO["rest 6"])}, errors.NotAField("rest 6")),
        (call, {"grid": LONG["ratio"], name: wrap(TWO["rest 3"])}, errors.Unlike("ratio", "rest 3")),
        (call, {"grid": LONG["ratio"], name: wrap(TWO["ratio"])}, errors.NotSquare((2, 3))),
        (call, {"grid": G, name: wrap(THREE["ratio"])}, errors.InvalidShape((2, 2), (3, 1))),
    )],
    (follower, {"poly": P["whole"] * 2}, errors.NotAField("whole")),
    *[(follower, {"poly": poly}, errors.NotMonic(poly)) for poly in (
        Poly("ratio", ()), Poly("ratio", (1,)), Poly("rest 3", (1, 2)), monic("ratio", 9) * 2)],
    (follower, {"poly": monic("rest 3", 9)}, errors.TooMany(9)),
    (follower_blocks, {"polys": (monic("ratio", 4), monic("ratio", 5))}, errors.TooMany(9)),
    (follower_blocks, {"polys": (X,) * 9}, errors.TooMany(9)),
    *[row for call in (is_alike, leading_grid, telling_poly) for row in (
        (call, {"grid": LONG["whole"], "other": TALL["rest 6"]}, errors.NotAField("whole")),
        (call, {"grid": LONG["ratio"], "other": TALL["rest 6"]}, errors.NotAField("rest 6")),
        (call, {"grid": LONG["ratio"], "other": TALL["rest 3"]}, errors.Unlike("ratio", "rest 3")),
        (call, {"grid": LONG["ratio"], "other": TALL["ratio"]}, errors.NotSquare((2, 3))),
        (call, {"grid": G, "other": TALL["ratio"]}, errors.NotSquare((3, 2))),
        (call, {"grid": G, "other": GREAT["ratio"]}, errors.InvalidShape((2, 2), (3, 3))),
    )],
)


class Calls(CallTables, Told):
    CALLS = CALLS
    LATER = (*CORES, *GROUPS, *RESTED, *FORMS)
