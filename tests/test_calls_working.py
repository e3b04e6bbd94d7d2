"""The order of errors, what is told and that nothing changes, of all calls about places, deeds, logs, wishes and certificates."""

from calls import COLUMN, G, GRID, INDEX, KIND, OTHER, POLY, SIDE, A, CallTables, W
from gridwright import errors
from gridwright.certificates import (
    certify_alike, certify_blocks, certify_common, certify_cores, certify_determinant, certify_least, certify_least_rule, certify_look,
    certify_mate, certify_member, certify_nearest, certify_rank, certify_rows, certify_single, certify_solution, certify_stairs, certify_turning,
    certify_whole_stairs,
)
from gridwright.columns import Column
from gridwright.deeds import deeds_of, done, done_at_columns, is_deed, turning_of, way_back
from gridwright.grids import nought_grid, one_grid
from gridwright.leading import led
from gridwright.logs import drawn_together, way_home
from gridwright.looks import Looks
from gridwright.places import lots, placed, plain_grid, plain_number, ring_quarrel
from gridwright.polys import Poly
from gridwright.wishes import holds, names_in
from support import SPOILT, Told
from test_calls_chains import FIELD, LOOKED, RUN, RUNS, SHAPES
from test_conventions import Claims, Refuses
from test_deeds import NO_DEEDS
from test_wishes import NO_WISHES

KINDS = ("whole", "ratio", "rest 3", "rest 5", "rest 6", "poly whole", "poly ratio", "poly rest 3")
TWO = {kind: led(Column((1, 2)), kind) for kind in KINDS}
THREE = {kind: led(Column((1, 2, 3)), kind) for kind in KINDS}
SQUARE = {kind: led(W, kind) for kind in KINDS}
LONG = {kind: nought_grid(kind, 2, 3) for kind in KINDS}
TALL = {kind: nought_grid(kind, 3, 2) for kind in KINDS}
X = Poly("ratio", (0, 1))
BY_THREE = Poly("rest 3", (1, 0, 1))
SEEN = ((0, 0, 2), (0, 1, 3), (1, 0, 4))
BAD_SEEN = SEEN + ((1, 1, 5),)
LOOKS = Looks("ratio", (2, 3), ((THREE["ratio"], TWO["ratio"]),))
NO_TUPLES = (None, True, "x", [1], {}, object(), Claims(), Refuses(), 5)
PLACES = [(value, errors.InvalidPlaces(None)) for value in NO_TUPLES] + [
    ((value,), errors.InvalidPlaces(0)) for value in (*SPOILT, Claims(), (0, 0, 0), (0, 8, 1), (0, Refuses(), 1), (0, 0, Refuses()))]
LOG = [(value, errors.InvalidLog(None)) for value in NO_TUPLES] + [((("swap", 0, 1), value), errors.InvalidLog(1)) for value in NO_DEEDS]
DEED = [(value, errors.InvalidDeed(value)) for value in NO_DEEDS]
WISH = [(value, errors.InvalidWish(value)) for value in NO_WISHES]
NAMED = [(value, errors.InvalidPairs(None)) for value in NO_TUPLES] + [
    ((value,), errors.InvalidPairs(0)) for value in (*SPOILT, Claims(), ("A", W), ("a", None), ("a", W, W), (Refuses(), W))]

CALLS = (
    *[(call, {"kind": ("ratio", FIELD), "shape": ((2, 3), SHAPES), "places": (SEEN, PLACES)}) for call in (ring_quarrel, plain_grid, lots)],
    (placed, {"kind": ("ratio", FIELD), "shape": ((2, 2), SHAPES), "places": (SEEN, PLACES), "i": (1, INDEX), "j": (1, INDEX)}),
    (plain_number, {"kind": ("rest 5", FIELD), "shape": ((2, 3), SHAPES), "places": (SEEN, PLACES)}),
    (is_deed, {"kind": ("ratio", KIND), "size": (2, SIDE), "value": (("swap", 0, 1), [])}),
    *[(call, {"grid": (G, GRID), "deed": (("add", 0, 1, 2), DEED)}) for call in (done, done_at_columns)],
    (way_back, {"kind": ("ratio", KIND), "deed": (("scale", 7, 2), DEED)}),
    (turning_of, {"kind": ("ratio", KIND), "size": (2, SIDE), "deeds": ((("scale", 1, 2), ("swap", 0, 1)), LOG)}),
    (deeds_of, {"grid": (G, GRID)}),
    *[(call, {"kind": ("ratio", KIND), "log": ((("scale", 1, 2), ("scale", 1, 3)), LOG)}) for call in (way_home, drawn_together)],
    (names_in, {"wish": (("sum", "a", "b", "a"), WISH)}),
    (holds, {"wish": (("rank", "a", 2), WISH), "pairs": ((("a", G), ("b", W)), NAMED)}),
    *[(call, {"grid": (G, GRID)}) for call in (certify_turning, certify_rank, certify_stairs, certify_blocks, certify_least, certify_determinant)],
    *[(call, {"grid": (W, GRID)}) for call in (certify_whole_stairs, certify_cores, certify_mate)],
    *[(call, {"grid": (G, GRID), "other": (OTHER, GRID)}) for call in (certify_alike, certify_rows)],
    (certify_solution, {"grid": (G, GRID), "column": (A, COLUMN)}),
    (certify_member, {"grid": (W, GRID), "column": (TWO["whole"], COLUMN)}),
    (certify_nearest, {"grid": (W, GRID), "column": (A, COLUMN)}),
    (certify_common, {"poly": (X * X, POLY), "other": (X - 1, POLY)}),
    (certify_single, {"poly": (BY_THREE, POLY)}),
    (certify_least_rule, {"kind": ("ratio", FIELD), "run": (RUN, RUNS)}),
    (certify_look, {"looks": (LOOKS, LOOKED), "column": (THREE["ratio"], COLUMN)}),
)
TOLD = (
    (placed, {"kind": "ratio", "shape": (2, 2), "places": BAD_SEEN, "i": 1, "j": 1}, errors.Quarrels()),
    (plain_number, {"kind": "ratio", "shape": (2, 2), "places": BAD_SEEN}, errors.NotRests("ratio")),
    (deeds_of, {"grid": LONG["rest 6"]}, errors.NotAField("rest 6")),
    (deeds_of, {"grid": LONG["poly whole"]}, errors.NotAField("poly whole")),
    (deeds_of, {"grid": LONG["poly ratio"]}, errors.NotSquare((2, 3))),
    (deeds_of, {"grid": nought_grid("ratio", 2, 2)}, errors.NoInverse()),
    (holds, {"wish": ("rank", "c", 2), "pairs": (("a", G),)}, errors.UnknownName("c")),
)
SHOWN = (
    *[(certify_turning, {"grid": LONG[kind]}, errors.NotAField(kind)) for kind in ("poly whole", "poly ratio", "poly rest 3")],
    *[(certify_turning, {"grid": LONG[kind]}, errors.NotSquare((2, 3))) for kind in ("whole", "ratio", "rest 3", "rest 6")],
    *[(call, {"grid": LONG[kind]}, errors.NotAField(kind)) for call in (certify_rank, certify_stairs) for kind in ("whole", "rest 6", "poly ratio")],
    (certify_whole_stairs, {"grid": LONG["ratio"]}, errors.NotWhole("ratio")),
    *[(certify_cores, {"grid": LONG[kind]}, errors.NotWhole(kind)) for kind in ("ratio", "rest 6", "poly whole")],
    (certify_cores, {"grid": nought_grid("poly rest 3", 2, 6)}, errors.TooMany(6)),
    *[row for call in (certify_blocks, certify_least, certify_determinant) for row in (
        (call, {"grid": LONG["whole"]}, errors.NotAField("whole")),
        (call, {"grid": LONG["ratio"]}, errors.NotSquare((2, 3))),
    )],
    (certify_alike, {"grid": LONG["whole"], "other": TALL["rest 6"]}, errors.NotAField("whole")),
    (certify_alike, {"grid": LONG["ratio"], "other": TALL["rest 3"]}, errors.Unlike("ratio", "rest 3")),
    (certify_alike, {"grid": LONG["ratio"], "other": TALL["ratio"]}, errors.NotSquare((2, 3))),
    (certify_alike, {"grid": G, "other": TALL["ratio"]}, errors.NotSquare((3, 2))),
    (certify_alike, {"grid": G, "other": one_grid("ratio", 3)}, errors.InvalidShape((2, 2), (3, 3))),
    (certify_rows, {"grid": LONG["rest 6"], "other": TALL["poly ratio"]}, errors.NotAField("rest 6")),
    (certify_rows, {"grid": LONG["whole"], "other": TALL["poly ratio"]}, errors.NotAField("poly ratio")),
    (certify_rows, {"grid": LONG["whole"], "other": TALL["ratio"]}, errors.Unlike("whole", "ratio")),
    (certify_rows, {"grid": LONG["whole"], "other": TALL["whole"]}, errors.InvalidShape((2, 3), (3, 2))),
    (certify_solution, {"grid": LONG["poly ratio"], "column": THREE["poly whole"]}, errors.NotAField("poly ratio")),
    (certify_solution, {"grid": LONG["rest 6"], "column": THREE["poly whole"]}, errors.NotAField("poly whole")),
    (certify_solution, {"grid": LONG["rest 6"], "column": THREE["rest 3"]}, errors.Unlike("rest 6", "rest 3")),
    *[(certify_solution, {"grid": LONG[kind], "column": THREE[kind]}, errors.InvalidShape((2, 3), (3, 1))) for kind in ("whole", "ratio", "rest 6")],
    (certify_member, {"grid": LONG["ratio"], "column": TWO["rest 6"]}, errors.NotWhole("ratio")),
    (certify_member, {"grid": LONG["whole"], "column": TWO["rest 6"]}, errors.NotWhole("rest 6")),
    (certify_member, {"grid": LONG["whole"], "column": TWO["whole"]}, errors.InvalidShape((2, 3), (2, 1))),
    (certify_nearest, {"grid": LONG["rest 3"], "column": THREE["rest 6"]}, errors.NotOrdered("rest 3")),
    (certify_nearest, {"grid": LONG["whole"], "column": THREE["rest 6"]}, errors.NotOrdered("rest 6")),
    (certify_nearest, {"grid": LONG["whole"], "column": THREE["ratio"]}, errors.InvalidShape((2, 3), (3, 1))),
    (certify_mate, {"grid": LONG["poly ratio"]}, errors.NotOrdered("poly ratio")),
    (certify_common, {"poly": Poly("whole", ()), "other": Poly("rest 3", ())}, errors.NotAField("whole")),
    (certify_common, {"poly": X * 0, "other": Poly("rest 3", ())}, errors.Unlike("ratio", "rest 3")),
    (certify_common, {"poly": X * 0, "other": X * 0}, errors.Nought()),
    (certify_single, {"poly": X * 0}, errors.NotRests("ratio")),
    (certify_single, {"poly": Poly("rest 101", ())}, errors.NotRests("rest 101")),
    (certify_single, {"poly": Poly("rest 3", ())}, errors.Nought()),
    (certify_single, {"poly": Poly("rest 3", (2,))}, errors.NotMonic(Poly("rest 3", (2,)))),
    (certify_single, {"poly": Poly("rest 3", (0,) * 25 + (2,))}, errors.TooMany(25)),
    (certify_look, {"looks": Looks("ratio", (2, 3), ()), "column": TWO["rest 3"]}, errors.Unlike("ratio", "rest 3")),
    (certify_look, {"looks": Looks("ratio", (2, 3), ()), "column": TWO["ratio"]}, errors.InvalidShape((2, 3), (2, 1))),
    (certify_look, {"looks": Looks("ratio", (2, 3), ()), "column": THREE["ratio"]}, errors.TooFew(0)),
)


class Calls(CallTables, Told):
    CALLS = CALLS
    LATER = (*TOLD, *SHOWN)
