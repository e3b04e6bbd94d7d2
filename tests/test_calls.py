"""What holds of all calls with columns and grids alike: the order of errors, what they tell, and that nothing changes."""

from gridwright import errors
from gridwright.blocks import below, beside, crossed, pile, piece, put_blocks, unpiled
from gridwright.columns import Column, dot, unit_column
from gridwright.dets import det, det_along, det_bound, det_by_orders, det_rests, det_tables, det_walk, from_rests
from gridwright.grids import (
    Grid, diagonal_grid, exchange_grid, from_columns, from_rows, is_diagonal, is_even, is_lower, is_upper, nought_grid,
    one_grid, order_sign, trace,
)
from gridwright.leading import led, to_whole
from gridwright.minors import leading_minors, minor, minor_rank, minors, near_minors
from gridwright.ratios import Ratio
from gridwright.sides import cramer, inverse, is_turning, rest_block, side_grid
from gridwright.spans import bar_base, base_of, chosen, in_span, is_free, meet_base, relation, sum_base
from gridwright.stairs import (
    both_turnings, free_places, rank, rank_number, rank_parts, row_turning, span_at, span_number, stair_form,
    stair_turning, step_places,
)
from calls import (
    COLUMN, COLUMNS, G, GRID, INDEX, INDEXES, KIND, OTHER, PRIME, SIDE, WIDE, WRONG_NUMBER, A, CallTables, W, given, indexed,
)
from support import Told, same

CALLS = (
    (dot, {"column": (A, COLUMN), "other": (A, COLUMN)}),
    (unit_column, {"kind": ("ratio", KIND), "size": (2, SIDE), "index": (1, INDEX)}),
    (one_grid, {"kind": ("ratio", KIND), "size": (2, SIDE)}),
    (nought_grid, {"kind": ("ratio", KIND), "height": (2, SIDE), "width": (3, SIDE)}),
    (diagonal_grid, {"kind": ("ratio", KIND), "entries": ((1, 2), [
        pair for pair in indexed("InvalidEntries", ((1, W), 1), ((1,) * 9, 8)) if not same(pair[0], (10 ** 59,))])}),
    (from_columns, {"columns": ((A, A), [*COLUMNS, ((A,) * 9, errors.InvalidColumns(8))])}),
    (from_rows, {"columns": ((A, A), [*COLUMNS, ((A,) * 9, errors.InvalidColumns(8))])}),
    (exchange_grid, {"order": ((1, 0), given("InvalidOrder", (), (1,), (0, 0), (True, False)))}),
    (order_sign, {"order": ((1, 0), given("InvalidOrder", (), (1,), (0, 0), (True, False)))}),
    *[(call, {"grid": (G, GRID)}) for call in (
        trace, is_upper, is_lower, is_diagonal, is_even, pile, det, det_by_orders, det_walk, det_tables, leading_minors,
        minor_rank, side_grid, is_turning, inverse, stair_form, step_places, free_places, rank, stair_turning, rank_parts,
        both_turnings)],
    *[(call, {"grid": (W, GRID)}) for call in (det_bound, det_rests)],
    *[(call, {"grid": (G, GRID), "other": (OTHER, GRID)}) for call in (beside, below, crossed, row_turning)],
    (led, {"value": (G, [pair for pair in given("NotANumber", (1,), "1") if not same(pair[0], 10 ** 59)]),
           "kind": ("rest 7", KIND)}),
    (to_whole, {"value": (G, given("NotANumber", 1, Ratio(1, 2)))}),
    (put_blocks, {"grids": ((G, OTHER), indexed("InvalidGrids", ((G, W), 1), ((G, A), 1), ((G,) * 9, 8)))}),
    (piece, {"grid": (G, GRID), "rows": ((0, 0), INDEXES), "places": ((1, 0), INDEXES)}),
    (unpiled, {"column": (A, COLUMN), "height": (2, given("InvalidNumber", 0, -1, 3, 4))}),
    (det_along, {"grid": (G, GRID), "index": (1, INDEX)}),
    (from_rests, {"pairs": (((2, 1), (3, 2)), indexed("InvalidPairs", (((2, 1), (2, 1)), 1), (((2, 2),), 0))),
                  "bound": (2, [pair for pair in given("InvalidNumber", -1) if not same(pair[0], 10 ** 59)])}),
    (minor, {"grid": (G, GRID), "rows": ((0, 1), [*INDEXES, ((1, 0), errors.InvalidIndexes(1))]),
             "places": ((0, 1), [*INDEXES, ((1, 1), errors.InvalidIndexes(1))])}),
    (minors, {"grid": (G, GRID), "size": (1, given("InvalidNumber", 0, 3))}),
    (near_minors, {"grid": (G, GRID), "size": (1, given("InvalidNumber", 0, 3))}),
    (cramer, {"grid": (G, GRID), "column": (A, COLUMN)}),
    (rest_block, {"grid": (G, GRID), "size": (1, given("InvalidNumber", 0, 2))}),
    (rank_number, {"height": (2, SIDE), "width": (2, SIDE), "rank": (1, WRONG_NUMBER), "prime": (3, PRIME)}),
    (span_number, {"size": (3, SIDE), "dimension": (1, WRONG_NUMBER), "prime": (3, PRIME)}),
    (span_at, {"size": (3, SIDE), "dimension": (2, given("InvalidNumber", 0, 4)), "prime": (2, PRIME),
               "index": (5, given("InvalidIndex", -1, 7))}),
    *[(call, {"columns": ((A, A), COLUMNS)}) for call in (base_of, is_free, relation, chosen, bar_base)],
    (in_span, {"columns": ((A, A), COLUMNS), "column": (A * 2, COLUMN)}),
    *[(call, {"columns": ((A, A), COLUMNS), "others": ((A,), COLUMNS)}) for call in (sum_base, meet_base)],
)
# Values by which each call comes to an error of several arguments, or to one that is told last.
LATER = (
    (dot, {"column": A, "other": Column((1, 2))}, errors.Unlike("ratio", "whole")),
    (dot, {"column": A, "other": Column((Ratio(1),))}, errors.InvalidShape((2, 1), (1, 1))),
    (beside, {"grid": G, "other": W}, errors.Unlike("ratio", "whole")),
    (below, {"grid": G, "other": WIDE["ratio"]}, errors.InvalidShape((2, 2), (2, 3))),
    (crossed, {"grid": nought_grid("ratio", 2, 8), "other": G}, errors.TooMany(16)),
    (led, {"value": G, "kind": "whole"}, errors.NotLed("ratio", "whole")),
    (led, {"value": Ratio(1, 2), "kind": "rest 4"}, errors.NotAUnit(2)),
    (det_along, {"grid": WIDE["ratio"], "index": 1}, errors.NotSquare((2, 3))),
    (from_rests, {"pairs": ((2, 1),), "bound": 5}, errors.TooFew(2)),
    (from_rests, {"pairs": ((2, 1),), "bound": 0}, errors.Quarrels()),
    (minor, {"grid": G, "rows": (0, 1), "places": (0,)}, errors.InvalidShape((2, 1), (2, 2))),
    (minors, {"grid": nought_grid("ratio", 8, 8), "size": 2}, errors.TooMany(784)),
    (cramer, {"grid": W, "column": A}, errors.Unlike("whole", "ratio")),
    (cramer, {"grid": WIDE["ratio"], "column": A}, errors.NotSquare((2, 3))),
    (cramer, {"grid": G, "column": Column((Ratio(1),))}, errors.InvalidShape((2, 2), (1, 1))),
    (rest_block, {"grid": WIDE["poly whole"], "size": 1}, errors.NotAField("poly whole")),
    (rest_block, {"grid": WIDE["ratio"], "size": 1}, errors.NotSquare((2, 3))),
    (rest_block, {"grid": nought_grid("ratio", 2, 2), "size": 1}, errors.NoInverse()),
    (row_turning, {"grid": W, "other": WIDE["ratio"]}, errors.NotAField("whole")),
    (row_turning, {"grid": G, "other": WIDE["ratio"]}, errors.InvalidShape((2, 2), (2, 3))),
    (in_span, {"columns": (Column((1, 2)),), "column": A}, errors.NotAField("whole")),
    (in_span, {"columns": (A,), "column": Column((Ratio(1),))}, errors.InvalidShape((2, 1), (1, 1))),
    (sum_base, {"columns": (A,), "others": (Column((1,)),)}, errors.NotAField("whole")),
    (meet_base, {"columns": (Column((1,)),), "others": (A,)}, errors.NotAField("whole")),
)


class Calls(CallTables, Told):
    CALLS = CALLS
    LATER = LATER
