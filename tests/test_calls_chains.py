"""The order of errors, what is told and that nothing changes, of all calls about chains, runs, nearest points and looks."""

from calls import COLUMN, G, GRID, KIND, OTHER, POLY, PRIME, SIDE, A, CallTables, W, but, given, indexed
from gridwright import errors
from gridwright.chains import chain_count, chain_form, chain_grid, chain_turning
from gridwright.classes import alike_number, class_number, round_number
from gridwright.columns import Column
from gridwright.commuting import both_commuting, commutes, commuting_base, commuting_number, is_lone, poly_for
from gridwright.farruns import far, product_rule, rule_round, step_rule, sum_rule
from gridwright.grids import Grid, nought_grid, one_grid
from gridwright.leading import led
from gridwright.leaning import (
    across, closest, distance, is_leaning, leaning_grid, length, mate, nearest, nearest_poly, product_grid, square_parts,
)
from gridwright.looks import (
    Looks, even_fitting, even_sure, fits, fitting, fitting_number, free_numbers, looks_left, quarrel, ranks, sure, sure_places,
)
from gridwright.polys import Poly
from gridwright.ratios import Ratio
from gridwright.rests import Rest
from gridwright.runs import gone_on, is_only, is_rule, least_rule, reach, rule_of, run_bar, run_table
from gridwright.standing import diagonal_turning, standing_base, standing_numbers
from support import SPOILT, Told, same
from test_conventions import DEEP, Claims, Refuses

KINDS = ("whole", "ratio", "rest 3", "rest 5", "rest 6", "poly whole", "poly ratio", "poly rest 3")
TWO = {kind: led(Column((1, 2)), kind) for kind in KINDS}
THREE = {kind: led(Column((1, 2, 3)), kind) for kind in KINDS}
LONG = {kind: nought_grid(kind, 2, 3) for kind in KINDS}
TALL = {kind: nought_grid(kind, 3, 2) for kind in KINDS}
BY_FIVE = led(W, "rest 5")
X = Poly("ratio", (0, 1))
RUN = (1, 1, 2, 3, 5)
RABBITS = Poly("ratio", (-1, -1, 1))
LOOKS = Looks("ratio", (2, 3), ((THREE["ratio"], TWO["ratio"]),))
EVEN = Looks("ratio", (2, 2), ())
BAD = Looks("ratio", (2, 2), ((TWO["ratio"] * 0, TWO["ratio"]),))
BAD_BY_THREE = Looks("rest 3", (2, 2), ((TWO["rest 3"] * 0, TWO["rest 3"]),))

FIELD = [*KIND, *[(kind, errors.NotAField(kind)) for kind in ("whole", "rest 6", "poly ratio")]]
NUMBER = but(given("InvalidNumber", (1,), Rest(1, 3), X), 10 ** 59)
RUNS = [(value, error) for value, error in indexed("InvalidRun", ((1, Rest(1, 3)), 1), ((X,), 0), ((1,) * 41, 40)) if not same(value, (10 ** 59,))]
RULE = [*POLY, (Poly("whole", (0, 1)), errors.Unlike("ratio", "whole")), (X * 2, errors.NotMonic(X * 2)), (X * 0, errors.NotMonic(X * 0))]
TO_FORTY = given("InvalidNumber", -1, 41, Ratio(1))
LOOKED = given("NotLooks", "ratio", (), 1)
RANK = given("InvalidNumber", -1, 9, Ratio(1))
# What is wrong alone is told with the shape and None beside it.
SHAPES = [(value, errors.InvalidShape(value, None)) for value in (None, True, "x", [1], DEEP, object(), (0, 1), (1, 9), (1, 2, 3), (True, 1))]
PAIRS = [(value, errors.InvalidPairs(None)) for value in (None, True, "x", [1], {}, object(), Claims(), Refuses())] + [
    ((value,), errors.InvalidPairs(0)) for value in (*SPOILT, (A, A), (Claims(), Refuses()))]
POINTS = indexed("InvalidPoints", (((1, 2), (1, X)), 1), (((1, 2, 3),), 0), (((1, 2),) * 13, 12))

CALLS = (
    *[(call, {"grid": (G, GRID)}) for call in (
        standing_numbers, diagonal_turning, chain_form, chain_turning, commuting_number, commuting_base, is_lone)],
    (standing_base, {"grid": (G, GRID), "number": (1, NUMBER)}),
    (chain_grid, {"kind": ("ratio", FIELD), "number": (Ratio(1, 2), NUMBER), "size": (3, SIDE)}),
    (chain_count, {"grid": (G, GRID), "number": (1, NUMBER), "size": (2, SIDE)}),
    *[(call, {"grid": (G, GRID), "other": (OTHER, GRID)}) for call in (commutes, poly_for, both_commuting)],
    *[(call, {"grid": (BY_FIVE, GRID)}) for call in (round_number, alike_number)],
    (class_number, {"prime": (5, PRIME), "size": (3, SIDE)}),
    (is_rule, {"kind": ("ratio", FIELD), "run": (RUN, RUNS), "rule": (RABBITS, RULE)}),
    *[(call, {"kind": ("ratio", FIELD), "run": (RUN, RUNS)}) for call in (reach, least_rule, is_only)],
    *[(call, {"kind": ("ratio", FIELD), "run": (RUN, RUNS), "size": (1, TO_FORTY)}) for call in (rule_of, run_bar)],
    (run_table, {"kind": ("ratio", FIELD), "run": (RUN, RUNS), "height": (2, given("InvalidNumber", 0, -1, 6, Ratio(1)))}),
    (gone_on, {"kind": ("ratio", FIELD), "run": (RUN, RUNS), "rule": (RABBITS, RULE),
               "many": (3, given("InvalidNumber", -1, 201, Ratio(1)))}),
    (far, {"kind": ("ratio", FIELD), "run": ((0, 1), RUNS), "rule": (RABBITS, RULE),
           "index": (9, given("InvalidNumber", -1, 1001, Ratio(1)))}),
    *[(call, {"poly": (X * X - 2, POLY), "other": (X - 1, POLY)}) for call in (sum_rule, product_rule)],
    (step_rule, {"poly": (X * X - 2, POLY), "step": (3, given("InvalidNumber", 0, -1, 65, Ratio(1)))}),
    (rule_round, {"poly": (Poly("rest 3", (1, 0, 1)), POLY)}),
    (length, {"column": (A, COLUMN)}),
    *[(call, {"grid": (W, GRID)}) for call in (product_grid, across, leaning_grid, is_leaning, square_parts, mate)],
    *[(call, {"grid": (W, GRID), "column": (A, COLUMN)}) for call in (nearest, distance, closest)],
    (nearest_poly, {"points": (((0, 1), (1, Ratio(1, 2))), POINTS), "degree": (1, given("InvalidNumber", -1, 8, Ratio(1)))}),
    (Looks, {"kind": ("ratio", FIELD), "shape": ((2, 3), SHAPES), "pairs": (((THREE["ratio"], TWO["ratio"]),), PAIRS)}),
    (LOOKS.saw, {"x": (THREE["ratio"], COLUMN), "y": (TWO["ratio"], COLUMN)}),
    *[(call, {"looks": (LOOKS, LOOKED)}) for call in (quarrel, fitting, sure_places, looks_left, free_numbers, ranks)],
    (fits, {"looks": (LOOKS, LOOKED), "grid": (G, GRID)}),
    (sure, {"looks": (LOOKS, LOOKED), "column": (THREE["ratio"], COLUMN)}),
    (fitting_number, {"looks": (Looks("rest 3", (2, 3), ()), LOOKED), "rank": (1, RANK)}),
    (even_fitting, {"looks": (EVEN, LOOKED)}),
    (even_sure, {"looks": (EVEN, LOOKED), "row": (TWO["ratio"], COLUMN), "column": (A * 0, COLUMN)}),
)
FORMS = (
    *[row for call in (standing_numbers, diagonal_turning, chain_form, chain_turning, commuting_number, commuting_base, is_lone) for row in (
        (call, {"grid": LONG["whole"]}, errors.NotAField("whole")),
        (call, {"grid": LONG["ratio"]}, errors.NotSquare((2, 3))),
    )],
    (standing_numbers, {"grid": one_grid("rest 101", 2)}, errors.NotRests("rest 101")),
    (standing_numbers, {"grid": nought_grid("rest 101", 2, 3)}, errors.NotSquare((2, 3))),
    (standing_base, {"grid": LONG["rest 6"], "number": 1}, errors.NotAField("rest 6")),
    (standing_base, {"grid": LONG["ratio"], "number": 1}, errors.NotSquare((2, 3))),
    (chain_count, {"grid": LONG["poly ratio"], "number": 1, "size": 1}, errors.NotAField("poly ratio")),
    (chain_count, {"grid": LONG["ratio"], "number": 1, "size": 1}, errors.NotSquare((2, 3))),
    *[row for call in (commutes, poly_for, both_commuting) for row in (
        (call, {"grid": LONG["whole"], "other": TALL["rest 6"]}, errors.NotAField("whole")),
        (call, {"grid": LONG["ratio"], "other": TALL["rest 6"]}, errors.NotAField("rest 6")),
        (call, {"grid": LONG["ratio"], "other": TALL["rest 3"]}, errors.Unlike("ratio", "rest 3")),
        (call, {"grid": LONG["ratio"], "other": TALL["ratio"]}, errors.NotSquare((2, 3))),
        (call, {"grid": G, "other": TALL["ratio"]}, errors.NotSquare((3, 2))),
        (call, {"grid": G, "other": nought_grid("ratio", 3, 3)}, errors.InvalidShape((2, 2), (3, 3))),
    )],
    *[row for call in (round_number, alike_number) for row in (
        (call, {"grid": LONG["poly rest 3"]}, errors.NotRests("poly rest 3")),
        (call, {"grid": LONG["rest 6"]}, errors.NotAField("rest 6")),
        (call, {"grid": LONG["rest 3"]}, errors.NotSquare((2, 3))),
    )],
    (round_number, {"grid": nought_grid("rest 7", 8, 8)}, errors.NoInverse()),
    (round_number, {"grid": one_grid("rest 7", 8)}, errors.TooMany(7 ** 8)),
    (alike_number, {"grid": nought_grid("rest 101", 2, 3)}, errors.NotRests("rest 101")),
)
RUNS_ON = (
    (run_table, {"kind": "ratio", "run": (1,) * 20, "height": 7}, errors.TooMany(14)),
    (gone_on, {"kind": "ratio", "run": (1, 1, 3), "rule": RABBITS, "many": 1}, errors.NotARule(RABBITS)),
    (far, {"kind": "ratio", "run": (1, 1, 3), "rule": RABBITS, "index": 1}, errors.InvalidRun(None)),
    *[row for call in (sum_rule, product_rule) for row in (
        (call, {"poly": Poly("whole", ()), "other": Poly("rest 3", ())}, errors.NotAField("whole")),
        (call, {"poly": X * 0, "other": Poly("rest 3", ())}, errors.Unlike("ratio", "rest 3")),
        (call, {"poly": X ** 9, "other": X * 0}, errors.NotMonic(X * 0)),
    )],
    (product_rule, {"poly": X ** 3, "other": X ** 3}, errors.TooMany(9)),
    (step_rule, {"poly": Poly("whole", ()), "step": 2}, errors.NotAField("whole")),
    (step_rule, {"poly": X ** 0, "step": 2}, errors.NotMonic(X ** 0)),
    (step_rule, {"poly": X ** 9, "step": 2}, errors.TooMany(9)),
    (rule_round, {"poly": X * 0}, errors.NotRests("ratio")),
    (rule_round, {"poly": Poly("rest 3", (0, 2))}, errors.NotMonic(Poly("rest 3", (0, 2)))),
    (rule_round, {"poly": Poly("rest 3", (0,) * 13 + (1,))}, errors.NoRound()),
    (rule_round, {"poly": Poly("rest 3", (1,) + (0,) * 12 + (1,))}, errors.TooMany(3 ** 13)),
)
NEAR = (
    (length, {"column": TWO["rest 6"]}, errors.NotOrdered("rest 6")),
    *[(call, {"grid": LONG["poly whole"]}, errors.NotOrdered("poly whole")) for call in (
        product_grid, across, leaning_grid, is_leaning, square_parts, mate)],
    *[row for call in (nearest, distance, closest) for row in (
        (call, {"grid": LONG["rest 3"], "column": THREE["rest 6"]}, errors.NotOrdered("rest 3")),
        (call, {"grid": LONG["whole"], "column": THREE["rest 6"]}, errors.NotOrdered("rest 6")),
        (call, {"grid": LONG["whole"], "column": THREE["ratio"]}, errors.InvalidShape((2, 3), (3, 1))),
    )],
    (nearest_poly, {"points": ((0, 1), (0, 2)), "degree": 1}, errors.TooFew(1)),
)
SEEN = (
    (LOOKS.saw, {"x": TWO["whole"], "y": THREE["rest 3"]}, errors.Unlike("ratio", "whole")),
    (LOOKS.saw, {"x": TWO["ratio"], "y": THREE["rest 3"]}, errors.Unlike("ratio", "rest 3")),
    (LOOKS.saw, {"x": TWO["ratio"], "y": THREE["ratio"]}, errors.InvalidShape((2, 3), (2, 1))),
    (LOOKS.saw, {"x": THREE["ratio"], "y": THREE["ratio"]}, errors.InvalidShape((2, 3), (3, 1))),
    *[(call, {"looks": BAD}, errors.Quarrels()) for call in (sure_places, looks_left, free_numbers, ranks)],
    (sure, {"looks": BAD, "column": THREE["whole"]}, errors.Unlike("ratio", "whole")),
    (sure, {"looks": BAD, "column": THREE["ratio"]}, errors.InvalidShape((2, 2), (3, 1))),
    (sure, {"looks": BAD, "column": TWO["ratio"]}, errors.Quarrels()),
    (fitting_number, {"looks": BAD, "rank": 1}, errors.NotRests("ratio")),
    (fitting_number, {"looks": BAD_BY_THREE, "rank": 1}, errors.Quarrels()),
    (even_fitting, {"looks": LOOKS}, errors.NotSquare((2, 3))),
    (even_sure, {"looks": LOOKS, "row": TWO["whole"], "column": TWO["rest 3"]}, errors.Unlike("ratio", "whole")),
    (even_sure, {"looks": LOOKS, "row": TWO["ratio"], "column": TWO["rest 3"]}, errors.Unlike("ratio", "rest 3")),
    (even_sure, {"looks": LOOKS, "row": TWO["ratio"], "column": TWO["ratio"]}, errors.NotSquare((2, 3))),
    (even_sure, {"looks": BAD, "row": THREE["ratio"], "column": Column((Ratio(1),))}, errors.InvalidShape((2, 2), (3, 1))),
    (even_sure, {"looks": BAD, "row": TWO["ratio"], "column": Column((Ratio(1),))}, errors.InvalidShape((2, 2), (1, 1))),
    (even_sure, {"looks": BAD, "row": TWO["ratio"], "column": TWO["ratio"]}, errors.Quarrels()),
)


class Calls(CallTables, Told):
    CALLS = CALLS
    LATER = (*FORMS, *RUNS_ON, *NEAR, *SEEN)

    def test_truth_and_equality_of_looks_with_others(self):
        for other in (*SPOILT, DEEP, Claims(), Refuses(), "ratio", Looks, ("ratio", (2, 3), ())):
            self.same([LOOKS == other, LOOKS != other], [False, True])
        self.same([bool(EVEN), bool(LOOKS), LOOKS == LOOKS, Grid(((1,),)) == LOOKS], [True, True, True, False])
