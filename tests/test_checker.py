from itertools import product

from claims import LENGTHS, is_so, near
from drawn import lot
from gridwright.checker import accepts
from support import SPOILT, Told, same
from test_conventions import DEEP, Claims, Refuses

R2, ONE2 = "grid ratio: 1/1 2/1; 3/1 4/1", "grid ratio: 1/1 0/1; 0/1 1/1"
SWAP = "grid ratio: 0/1 1/1; 1/1 0/1"
LOOK = (("column rest 3: 1 1", "column rest 3: 0 2"),)
# Pairs of a claim and a paper that shows it, by hand, of each form and some of its edges.
SHOWN = (
    (("turning", "grid whole: 2 1; 1 1"), "grid whole: 1 -1; -1 2"),
    (("turning", "grid rest 6: 5"), "grid rest 6: 5"),
    (("turning", "grid poly whole: (1) (0,1); () (-1)"), "grid poly whole: (1) (0,1); () (-1)"),
    (("turning", "grid poly ratio: (2/1)"), "grid poly ratio: (1/2)"),
    (("not turning", "grid whole: 2 0; 0 1"), "column ratio: 1/2 0/1"),
    (("not turning", "grid whole: 0"), "column ratio: 1/7"),
    (("not turning", "grid ratio: 1/1 2/1; 2/1 4/1"), "column ratio: 2/1 -1/1"),
    (("not turning", "grid rest 6: 2"), "column rest 6: 3"),
    (("not turning", "grid rest 7: 0"), "column rest 7: 5"),
    (("rank", "grid ratio: 0/1", 0), ()),
    (("rank", "grid rest 2: 0 0 0", 0), ()),
    (("rank", "grid ratio: 2/1 4/1; 1/1 2/1", 1), ("grid ratio: 2/1; 1/1", "grid ratio: 1/1 2/1", "grid ratio: 1/2 0/1", "grid ratio: 1/1; 0/1")),
    (("rank", "grid ratio: 2/1 4/1; 1/1 2/1", 1), ("grid ratio: 4/1; 2/1", "grid ratio: 1/2 1/1", "grid ratio: 0/1 1/2", "grid ratio: 0/1; 1/1")),
    (("rank", ONE2, 2), (ONE2, ONE2, ONE2, ONE2)),
    (("rank", SWAP, 2), (SWAP, ONE2, SWAP, ONE2)),
    (("stairs", "grid ratio: 0/1 2/1; 0/1 1/1", "grid ratio: 0/1 1/1; 0/1 0/1"), ("grid ratio: 1/2 0/1; -1/2 1/1", "grid ratio: 2/1 0/1; 1/1 1/1")),
    (("stairs", "grid rest 5: 0", "grid rest 5: 0"), ("grid rest 5: 2", "grid rest 5: 3")),
    (("whole stairs", "grid whole: 4; 6", "grid whole: 2; 0"), ("grid whole: -1 1; 3 -2", "grid whole: 2 1; 3 1")),
    (("whole stairs", "grid whole: -3", "grid whole: 3"), ("grid whole: -1", "grid whole: -1")),
    (("cores", "grid whole: 2 4; 6 8", "grid whole: 2 0; 0 4"), ("grid whole: 1 0; 3 -1", "grid whole: 1 0; 3 -1", "grid whole: 1 -2; 0 1", "grid whole: 1 2; 0 1")),
    (("cores", "grid poly rest 3: (2,2)", "grid poly rest 3: (1,1)"), ("grid poly rest 3: (2)", "grid poly rest 3: (2)", "grid poly rest 3: (1)", "grid poly rest 3: (1)")),
    (("cores", "grid whole: 0 0", "grid whole: 0 0"), ("grid whole: 1", "grid whole: 1", "grid whole: 1 0; 0 1", "grid whole: 1 0; 0 1")),
    (("blocks", "grid ratio: 2/1 1/1; 0/1 2/1", "grid ratio: 0/1 -4/1; 1/1 4/1"), ("grid ratio: 0/1 1/1; 1/1 2/1", "grid ratio: -2/1 1/1; 1/1 0/1")),
    (("blocks", "grid rest 2: 1", "grid rest 2: 1"), ("grid rest 2: 1", "grid rest 2: 1")),
    (("blocks", "grid rest 2: 1 0; 0 1", "grid rest 2: 1 0; 0 1"), ("grid rest 2: 0 1; 1 0", "grid rest 2: 0 1; 1 0")),
    (("alike", "grid rest 2: 0 1; 1 0", "grid rest 2: 1 1; 0 1"), ("grid rest 2: 1 0; 1 1", "grid rest 2: 1 0; 1 1")),
    (("not alike", "grid ratio: 1/1", "grid ratio: 0/1"), ("poly ratio: (0/1,1/1)", 1, ("grid ratio: 1/1",) * 4, 0, ())),
    (("not alike", "grid rest 2: 0 0; 0 0", "grid rest 2: 1 0; 0 1"), ("poly rest 2: (1,1)", 2, ("grid rest 2: 1 0; 0 1",) * 4, 0, ())),
    (("least", ONE2, "poly ratio: (-1/1,1/1)"), ("column ratio: 2/1 0/1", "grid ratio: 1/2 5/1")),
    (("least", "grid rest 2: 0 1; 1 0", "poly rest 2: (1,0,1)"), ("column rest 2: 1 0", "grid rest 2: 1 0; 0 1")),
    (("solved", "grid whole: 2 3", "column whole: 1"), "column whole: 2 -1"),
    (("solved", "grid poly whole: (0,1)", "column poly whole: (0,0,1)"), "column poly whole: (0,1)"),
    (("solved", "grid rest 4: 2", "column rest 4: 2"), "column rest 4: 3"),
    (("solved", "grid ratio: 0/1", "column ratio: 0/1"), "column ratio: 5/7"),
    (("barred", "grid whole: 2 4; 6 8", "column whole: 2 1"), "column ratio: 0/1 1/2"),
    (("barred", "grid ratio: 1/1; 1/1", "column ratio: 1/1 0/1"), "column ratio: 1/1 -1/1"),
    (("barred", "grid rest 6: 2", "column rest 6: 1"), "column rest 6: 3"),
    (("member", "grid whole: 2 0; 1 3", "column whole: 3 3"), "column whole: 1 1"),
    (("no member", "grid whole: 2 0; 1 3", "column whole: 1 0"), "column ratio: 1/2 1/2"),
    (("rows", "grid whole: 2 0; 1 3", "grid whole: 1 3; 0 6; 1 3"), ("grid whole: 2 -1 0; 1 0 0", "grid whole: 0 1; -1 2; 0 1")),
    (("rows", "grid ratio: 2/1", "grid ratio: 3/1; 0/1"), ("grid ratio: 2/3 0/1", "grid ratio: 3/2; 0/1")),
    (("determinant", SWAP, "-1/1"), ((1, 0), ONE2, ONE2)),
    (("determinant", R2, "-2/1"), ((0, 1), "grid ratio: 1/1 0/1; 3/1 1/1", "grid ratio: 1/1 2/1; 0/1 -2/1")),
    (("determinant", "grid rest 5: 0", "0"), ((0,), "grid rest 5: 1", "grid rest 5: 0")),
    (("common", "poly ratio: (-1/1,0/1,1/1)", "poly ratio: ()", "poly ratio: (-1/1,0/1,1/1)"), ("poly ratio: (1/1)", "poly ratio: ()", "poly ratio: (1/1)", "poly ratio: (7/1)")),
    (("common", "poly rest 2: (0,1)", "poly rest 2: (1,1)", "poly rest 2: (1)"), ("poly rest 2: (0,1)", "poly rest 2: (1,1)", "poly rest 2: (1)", "poly rest 2: (1)")),
    (("parted", "poly ratio: (-1/1,0/1,1/1)"), ("poly ratio: (-1/2,1/2)", "poly ratio: (2/1,2/1)")),
    (("parted", "poly rest 2: (1,0,1)"), ("poly rest 2: (1,1)", "poly rest 2: (1,1)")),
    (("single", "poly rest 5: (3,2)"), ()),
    (("single", "poly rest 2: (1,1,1)"), (("poly rest 2: (1)", "poly rest 2: (0,1,1)"),)),
    (("single", "poly rest 2: (1,1,1)"), (("poly rest 2: ()", "poly rest 2: (1)"),)),
    (("least rule", "ratio", ("0/1", "0/1"), "poly ratio: (1/1)"), ()),
    (("least rule", "ratio", ("0/1", "0/1", "1/1"), "poly ratio: (5/1,0/1,0/1,1/1)"), ("1/1",)),
    (("least rule", "ratio", ("1/1", "1/1", "2/1", "3/1"), "poly ratio: (-1/1,-1/1,1/1)"), ("-1/1", "1/1", "0/1")),
    (("least rule", "rest 2", ("1",), "poly rest 2: (0,1)"), ("1",)),
    (("nearest", "grid ratio: 1/1 0/1; 1/1 1/1; 1/1 2/1", "column ratio: 0/1 0/1 3/1", "column ratio: -1/2 1/1 5/2"), "column ratio: -1/2 3/2"),
    (("nearest", "grid ratio: 0/1", "column ratio: 3/1", "column ratio: 0/1"), "column ratio: 9/1"),
    (("mate", "grid ratio: 1/1 1/1; 0/1 0/1", "grid ratio: 1/2 0/1; 1/2 0/1"), ()),
    (("mate", "grid ratio: 0/1 0/1", "grid ratio: 0/1; 0/1"), ()),
    (("sure", LOOK, "column rest 3: 2 2", "column rest 3: 0 1"), ("2",)),
    (("sure", LOOK, "column rest 3: 0 0", "column rest 3: 0 0"), ("0",)),
    (("sure", LOOK * 12, "column rest 3: 1 1", "column rest 3: 0 2"), ("0",) * 11 + ("1",)),
    (("open", LOOK, "column rest 3: 1 0"), ("grid rest 3: 0 0; 2 0", "column rest 3: 1 2")),
    (("quarrel", LOOK + (("column rest 3: 1 1", "column rest 3: 0 1"),)), ("1", "2")),
    (("quarrel", (("column ratio: 0/1", "column ratio: 1/1"),)), ("3/1",)),
)
# Pairs that show nothing, each near to something that could be taken for a proof.
NOT_SHOWN = (
    # A grid that is undone from one side alone is no turning grid.
    (("turning", "grid ratio: 1/1 0/1"), "grid ratio: 1/1; 0/1"), (("turning", "grid ratio: 1/1; 0/1"), "grid ratio: 1/1 0/1"),
    (("stairs", "grid ratio: 1/1; 1/1", "grid ratio: 1/1"), ("grid ratio: 1/1 0/1", "grid ratio: 1/1; 0/1")),
    (("whole stairs", "grid whole: 1; 5", "grid whole: 1"), ("grid whole: 1 0", "grid whole: 1; 0")),
    (("cores", "grid whole: 1; 5", "grid whole: 1"), ("grid whole: 1 0", "grid whole: 1; 0", "grid whole: 1", "grid whole: 1")),
    (("cores", "grid whole: 1 5", "grid whole: 1"), ("grid whole: 1", "grid whole: 1", "grid whole: 1; 0", "grid whole: 1 0")),
    (("alike", "grid ratio: 1/1 0/1; 0/1 2/1", "grid ratio: 1/1"), ("grid ratio: 1/1; 0/1", "grid ratio: 1/1 0/1")),
    (("blocks", "grid ratio: 1/1 0/1; 0/1 2/1", "grid ratio: 1/1"), ("grid ratio: 1/1; 0/1", "grid ratio: 1/1 0/1")),
    # Grids with no turning grid at their sides, though all products fit.
    (("stairs", ONE2, "grid ratio: 0/1 0/1; 0/1 0/1"), ("grid ratio: 0/1 0/1; 0/1 0/1", ONE2)),
    (("alike", ONE2, R2), ("grid ratio: 0/1 0/1; 0/1 0/1", "grid ratio: 0/1 0/1; 0/1 0/1")),
    (("whole stairs", "grid whole: 1", "grid whole: 2"), ("grid whole: 2", "grid whole: 1")),
    (("turning", "grid whole: 2"), "grid ratio: 1/2"), (("turning", "grid ratio: 2/1"), "grid rest 3: 2"),
    # Forms in which something does not stand as it must.
    (("stairs", "grid ratio: 2/1", "grid ratio: 2/1"), ("grid ratio: 1/1", "grid ratio: 1/1")),
    (("stairs", SWAP, SWAP), (ONE2, ONE2)), (("stairs", "grid rest 2: 1 1; 0 1", "grid rest 2: 1 1; 0 1"), ("grid rest 2: 1 0; 0 1",) * 2),
    (("stairs", "grid ratio: 0/1; 1/1", "grid ratio: 0/1; 1/1"), (ONE2, ONE2)),
    (("whole stairs", "grid whole: 1 2; 0 2", "grid whole: 1 2; 0 2"), ("grid whole: 1 0; 0 1",) * 2),
    (("whole stairs", "grid whole: 1 -1; 0 2", "grid whole: 1 -1; 0 2"), ("grid whole: 1 0; 0 1",) * 2),
    (("whole stairs", "grid whole: -1", "grid whole: -1"), ("grid whole: 1",) * 2),
    (("cores", "grid whole: 2 0; 0 3", "grid whole: 2 0; 0 3"), ("grid whole: 1 0; 0 1",) * 4),
    (("cores", "grid whole: 0 0; 0 1", "grid whole: 0 0; 0 1"), ("grid whole: 1 0; 0 1",) * 4),
    (("cores", "grid whole: -2", "grid whole: -2"), ("grid whole: 1",) * 4),
    (("cores", "grid poly rest 3: (0,2)", "grid poly rest 3: (0,2)"), ("grid poly rest 3: (1)",) * 4),
    (("cores", "grid ratio: 1/1", "grid ratio: 1/1"), ("grid ratio: 1/1",) * 4),
    (("cores", "grid poly whole: (1)", "grid poly whole: (1)"), ("grid poly whole: (1)",) * 4),
    (("blocks", "grid ratio: 1/1 0/1; 0/1 2/1", "grid ratio: 1/1 0/1; 0/1 2/1"), (ONE2, ONE2)),
    (("blocks", SWAP, "grid ratio: 0/1 1/1; 1/1 0/1"), ("grid ratio: 1/1 1/1; 1/1 1/1", ONE2)),
    (("blocks", "grid ratio: 0/1 1/1; 2/1 0/1", "grid ratio: 0/1 1/1; 2/1 0/1"), (ONE2, ONE2)),
    (("blocks", "grid ratio: 1/1 1/1; 0/1 1/1", "grid ratio: 1/1 1/1; 0/1 1/1"), (ONE2, ONE2)),
    # Kinds for which nothing is claimed.
    (("not turning", "grid poly ratio: ()"), "column poly ratio: (1/1)"), (("rank", "grid whole: 0", 0), ()),
    (("rank", "grid rest 6: 0", 0), ()), (("stairs", "grid rest 6: 1", "grid rest 6: 1"), ("grid rest 6: 1",) * 2),
    (("determinant", "grid whole: 2", "2"), ((0,), "grid whole: 1", "grid whole: 2")),
    (("alike", "grid whole: 1", "grid whole: 1"), ("grid whole: 1",) * 2), (("least", "grid whole: 1", "poly whole: (-1,1)"), ("column whole: 1", "grid whole: 1")),
    (("rows", "grid rest 6: 1", "grid rest 6: 1"), ("grid rest 6: 1",) * 2), (("barred", "grid poly ratio: ()", "column poly ratio: (1/1)"), "column poly ratio: (1/1)"),
    (("member", "grid ratio: 1/1", "column ratio: 1/1"), "column ratio: 1/1"), (("no member", "grid rest 2: 0", "column rest 2: 1"), "column rest 2: 1"),
    (("common", "poly whole: (0,1)", "poly whole: ()", "poly whole: (0,1)"), ("poly whole: (1)", "poly whole: ()", "poly whole: (1)", "poly whole: ()")),
    (("parted", "poly whole: (0,0,1)"), ("poly whole: (0,1)", "poly whole: (0,1)")), (("single", "poly ratio: (0/1,1/1)"), ()),
    (("least rule", "whole", ("0",), "poly whole: (1)"), ()), (("mate", "grid whole: 1", "grid whole: 1"), ()),
    (("nearest", "grid whole: 1", "column whole: 1", "column whole: 1"), "column whole: 1"), (("mate", "grid rest 2: 1", "grid rest 2: 1"), ()),
    (("quarrel", (("column whole: 0", "column whole: 1"),)), ("1",)), (("quarrel", (("column rest 4: 2", "column rest 4: 1"),)), ("2",)),
    (("sure", (("column rest 4: 2", "column rest 4: 1"),), "column rest 4: 2", "column rest 4: 1"), ("1",)),
    # Columns and numbers that show nothing.
    (("not turning", "grid whole: 2"), "column ratio: 1/1"), (("not turning", "grid whole: 1"), "column ratio: 1/2"),
    (("not turning", "grid ratio: 0/1"), "column ratio: 0/1"), (("not turning", "grid rest 6: 2"), "column rest 6: 0"),
    (("not turning", "grid ratio: 0/1 0/1"), "column ratio: 1/1 1/1"), (("not turning", "grid rest 6: 5"), "column rest 6: 1"),
    (("not turning", "grid whole: 2"), "column whole: 1"), (("not turning", "grid rest 6: 2"), "column ratio: 1/2"),
    (("rank", "grid ratio: 0/1", 1), ("grid ratio: 0/1",) * 4), (("rank", "grid ratio: 1/1", 0), ()), (("rank", "grid ratio: 0/1", False), ()),
    (("rank", "grid ratio: 1/1", True), ("grid ratio: 1/1",) * 4), (("rank", ONE2, 1), (ONE2,) * 4), (("rank", "grid ratio: 0/1", 0), ""),
    (("rank", "grid ratio: 0/1 0/1; 0/1 0/1", 2), ("grid ratio: 0/1 0/1; 0/1 0/1",) * 4), (("rank", "grid ratio: 1/1", -1), ("grid ratio: 1/1",) * 4),
    (("rank", "grid ratio: 0/1", "0"), ()), (("rank", "grid ratio: 0/1", 0), ("grid ratio: 0/1",)),
    (("least", ONE2, "poly ratio: (1/1,-2/1,1/1)"), ("column ratio: 1/1 0/1", ONE2)), (("least", ONE2, "poly ratio: (-2/1,2/1)"), ("column ratio: 1/1 0/1", "grid ratio: 1/1 0/1")),
    (("least", ONE2, "poly ratio: (1/1)"), ("column ratio: 1/1 0/1", "grid ratio: 1/1 0/1")), (("least", ONE2, "poly ratio: ()"), ("column ratio: 1/1 0/1", "grid ratio: 1/1 0/1")),
    (("least", ONE2, "poly ratio: (-1/1,1/1)"), ("column ratio: 0/1 0/1", "grid ratio: 1/1 0/1")),
    (("least", "grid ratio: 1/1", "poly ratio: " + "(" + "0/1," * 200 + "-1/1,1/1)"), ("column ratio: 1/1", "grid ratio: 1/1")),
    (("solved", "grid whole: 2", "column whole: 1"), "column ratio: 1/2"), (("solved", "grid whole: 2", "column ratio: 1/1"), "column ratio: 1/2"),
    (("solved", "grid whole: 2 3", "column whole: 1"), "column whole: 2"), (("solved", "grid whole: 2", "column whole: 4"), "grid whole: 2"),
    (("solved", "grid whole: 2", "grid whole: 4"), "column whole: 2"),
    (("barred", "grid whole: 2", "column whole: 4"), "column ratio: 1/2"), (("barred", "grid whole: 2", "column whole: 1"), "column ratio: 1/3"),
    (("barred", "grid ratio: 1/1", "column ratio: 1/1"), "column ratio: 1/1"), (("barred", "grid rest 6: 2", "column rest 6: 2"), "column rest 6: 3"),
    (("barred", "grid whole: 2", "column whole: 1"), "column whole: 1"), (("barred", "grid ratio: 0/1; 0/1", "column ratio: 1/1"), "column ratio: 1/1"),
    (("rows", "grid ratio: 1/1 1/1", "grid ratio: 1/1 1/1; 0/1 1/1"), ("grid ratio: 1/1 0/1", "grid ratio: 1/1; 1/1")),
    (("rows", "grid whole: 2", "grid whole: 1"), ("grid whole: 2", "grid ratio: 1/2")), (("rows", "grid whole: 0", "grid whole: 1"), ("grid whole: 0", "grid whole: 0")),
    (("determinant", SWAP, "1/1"), ((1, 0), ONE2, ONE2)), (("determinant", SWAP, "-1/1"), ((0, 1), ONE2, ONE2)),
    (("determinant", SWAP, "-1/1"), ((1, 0, 2), ONE2, ONE2)), (("determinant", SWAP, "-1/1"), ((True, False), ONE2, ONE2)),
    (("determinant", SWAP, "-1/1"), ((1, 1), ONE2, ONE2)), (("determinant", SWAP, "-1"), ((1, 0), ONE2, ONE2)),
    (("determinant", "grid ratio: 2/1", "1/1"), ((0,), "grid ratio: 2/1", "grid ratio: 1/1")),
    (("determinant", "grid ratio: 1/1 2/1; 2/1 1/1", "1/1"), ((0, 1), "grid ratio: 1/1 2/1; 2/1 1/1", ONE2)),
    (("determinant", "grid ratio: 1/1 2/1; 2/1 1/1", "1/1"), ((0, 1), ONE2, "grid ratio: 1/1 2/1; 2/1 1/1")),
    (("determinant", R2, "4/1"), ((0, 1), R2, ONE2)), (("determinant", R2, "4/1"), ((0, 1), ONE2, R2)), (("determinant", "grid ratio: 0/1 1/1", "0/1"), ((0,), ONE2, SWAP)),
    (("common", "poly ratio: ()", "poly ratio: ()", "poly ratio: ()"), ("poly ratio: ()",) * 4),
    (("common", "poly ratio: (0/1,2/1)", "poly ratio: ()", "poly ratio: (0/1,2/1)"), ("poly ratio: (1/1)", "poly ratio: ()", "poly ratio: (1/1)", "poly ratio: ()")),
    (("common", "poly ratio: (0/1,0/1,1/1)", "poly ratio: (0/1,0/1,1/1)", "poly ratio: (0/1,1/1)"), ("poly ratio: (0/1,1/1)",) * 2 + ("poly ratio: (1/1)", "poly ratio: ()")),
    (("common", "poly rest 2: (1)", "poly rest 2: ()", "poly rest 3: (1)"), ("poly rest 3: (1)",) * 4),
    (("parted", "poly ratio: (0/1,1/1)"), ("poly ratio: (0/1,1/1)", "poly ratio: (1/1)")), (("parted", "poly ratio: (0/1,1/1)"), ("poly ratio: (2/1)", "poly ratio: (0/1,1/2)")), (("parted", "poly ratio: ()"), ("poly ratio: ()", "poly ratio: (0/1,1/1)")),
    (("parted", "poly ratio: (2/1)"), ("poly ratio: (2/1)", "poly ratio: (1/1)")), (("parted", "poly rest 2: (0,0,1)"), ("poly rest 2: (0,1)",) * 3),
    (("single", "poly rest 2: (1)"), ()), (("single", "poly rest 2: ()"), ()), (("single", "poly rest 2: (1,0,1)"), ()),
    (("single", "poly rest 2: (0,1,1)"), (("poly rest 2: (1)", "poly rest 2: (0,1)"),)), (("single", "poly rest 2: (1,1,1)"), ()),
    # Clear of x ** 2 - x, but with two parts of degree 2.
    (("single", "poly rest 3: (1,0,2,0,1)"), (("poly rest 3: (1)", "poly rest 3: ()"),)),
    (("single", "poly rest 5: (3,2)"), (("poly rest 5: (1)", "poly rest 5: (1)"),)),
    (("least rule", "ratio", ("0/1", "1/1"), "poly ratio: (1/1)"), ()), (("least rule", "ratio", ("0/1", "0/1"), "poly ratio: (0/1,1/1)"), ("1/1", "1/1")),
    (("least rule", "ratio", ("1/1",), "poly ratio: (0/1,0/1,1/1)"), ()), (("least rule", "ratio", (), "poly ratio: (1/1)"), ()),
    (("least rule", "ratio", ("1/1",), "poly ratio: (0/1,2/1)"), ("1/1",)), (("least rule", "ratio", ("0/1",) * 41, "poly ratio: (1/1)"), ()),
    (("least rule", "ratio", ("1/1", "2/1"), "poly ratio: (-1/1,1/1)"), ("1/1", "0/1")), (("least rule", "rest 2", ("1",), "poly ratio: (0/1,1/1)"), ("1",)),
    (("least rule", "ratio", ("1/1",), "poly ratio: (0/1,1/1)"), ("0/1",)), (("least rule", "ratio", ("1/1", "1/1"), "poly ratio: (0/1,0/1,1/1)"), ("1/1",)),
    (("least rule", "ratio", ("0/1", "0/1"), "poly ratio: (1/1)"), ("1/1",)), (("least rule", "ratio", ("1/1",), "poly ratio: (0/1,0/1,0/1,1/1)"), ("1/1",)),
    (("nearest", "grid ratio: 1/1; 1/1", "column ratio: 1/1 0/1", "column ratio: 1/1 1/1"), "column ratio: 1/1"),
    (("nearest", "grid ratio: 1/1; 1/1", "column ratio: 1/1 0/1", "column ratio: 1/1 0/1"), "column ratio: 1/1"),
    (("nearest", "grid ratio: 1/1; 1/1", "column ratio: 1/1 0/1", "column ratio: 1/2 1/2"), "column ratio: 1/3"),
    (("mate", "grid ratio: 1/1 1/1; 0/1 0/1", "grid ratio: 1/1 0/1; 0/1 0/1"), ()), (("mate", "grid ratio: 0/1", "grid ratio: 1/1"), ()),
    (("mate", "grid ratio: 1/1", "grid ratio: 0/1"), ()), (("mate", "grid ratio: 1/1", "grid ratio: 1/1"), ("",)), (("mate", "grid ratio: 1/1", "grid ratio: 1/1"), None),
    (("mate", "grid ratio: 1/1 0/1", "grid ratio: 1/1 0/1"), ()), (("mate", "grid ratio: 1/1; 0/1", "grid ratio: 1/1 1/1"), ()),
    (("mate", "grid ratio: 1/1 1/1", "grid ratio: 1/1; 0/1"), ()), (("mate", "grid whole: 1", "grid ratio: 1/1"), ()),
    (("mate", "grid ratio: 1/1", "grid whole: 1"), ()),
    (("sure", LOOK, "column rest 3: 1 0", "column rest 3: 0 1"), ("1",)), (("sure", LOOK, "column rest 3: 2 2", "column rest 3: 0 2"), ("2",)),
    (("sure", LOOK, "column rest 3: 2 2", "column rest 3: 0 1"), ("2", "0")), (("sure", LOOK, "column rest 3: 2 2", "column rest 3: 0 1"), ("5",)),
    (("sure", (), "column rest 3: 0 0", "column rest 3: 0 0"), ()), (("sure", LOOK * 13, "column rest 3: 0 0", "column rest 3: 0 0"), ("0",) * 13),
    (("sure", (LOOK[0], ("column rest 3: 1", "column rest 3: 0 2")), "column rest 3: 1 1", "column rest 3: 0 2"), ("1", "0")),
    (("sure", (LOOK[0], ("column rest 5: 1 1", "column rest 3: 0 2")), "column rest 3: 1 1", "column rest 3: 0 2"), ("1", "0")),
    (("open", LOOK, "column rest 3: 1 1"), ("grid rest 3: 0 0; 2 0", "column rest 3: 1 2")), (("open", LOOK, "column rest 3: 1 0"), ("grid rest 3: 0 0; 0 0", "column rest 3: 1 2")),
    (("open", LOOK, "column rest 3: 1 0"), ("grid rest 3: 0 0; 2 0", "column rest 3: 1 1")), (("open", LOOK, "column rest 3: 1 0"), ("grid rest 3: 0 0; 2 0", "column rest 3: 0 0")),
    (("open", LOOK, "column rest 3: 1"), ("grid rest 3: 0 0; 2 0", "column rest 3: 1")), (("quarrel", LOOK), ("0",)), (("quarrel", LOOK), ("1",)), (("quarrel", ()), ()),
    (("not alike", "grid ratio: 1/1", "grid ratio: 1/1"), ("poly ratio: (0/1,1/1)", 1, ("grid ratio: 1/1",) * 4, 1, ("grid ratio: 1/1",) * 4)),
    (("not alike", "grid ratio: 1/1", "grid ratio: 0/1"), ("poly ratio: (0/1,1/1)", True, ("grid ratio: 1/1",) * 4, 0, ())),
    (("not alike", "grid ratio: 1/1", "grid ratio: 0/1"), ("poly ratio: (0/1,1/1)", 1, ("grid ratio: 1/1",) * 4, False, ())),
    (("not alike", "grid ratio: 1/1", "grid rest 2: 0"), ("poly ratio: (0/1,1/1)", 1, ("grid ratio: 1/1",) * 4, 0, ())),
    (("not alike", "grid ratio: 1/1 0/1", "grid ratio: 0/1 0/1"), ("poly ratio: (0/1,1/1)", 1, ("grid ratio: 1/1",) * 4, 0, ())),
    (("not alike", ONE2, "grid ratio: 0/1"), ("poly ratio: (0/1,1/1)", 2, (ONE2,) * 4, 0, ())),
)
ODD = [*SPOILT, DEEP, Claims(), Refuses(), 0, 10 ** 50, "grid whole: 1", "column whole: 1", "poly whole: (1)", ("grid whole: 1",), (Claims(),), (Refuses(),), ((),)]


class Accepting(Told):
    def test_what_is_shown(self):
        words = set()
        for claim, paper in SHOWN:
            self.tells(True, accepts, claim=claim, paper=paper)
            self.assertIn(is_so(claim), (True, None), claim)
            words.add(claim[0])
        self.same(words, set(LENGTHS))

    def test_what_is_not_shown(self):
        for claim, paper in NOT_SHOWN:
            self.same((accepts(claim, paper), claim, paper), (False, claim, paper))
            self.same(accepts(paper=paper, claim=claim), False)

    def test_papers_of_other_claims(self):
        for (claim, _), (_, paper) in product(SHOWN, SHOWN):
            if accepts(claim, paper):
                self.assertIn(is_so(claim), (True, None), (claim, paper))

    def test_claims_with_other_words(self):
        for claim, paper in SHOWN:
            for word in LENGTHS:
                other = (word, *claim[1:])
                if accepts(other, paper):
                    self.assertIn(is_so(other), (True, None), (other, paper))

    def test_claims_and_papers_near_to_these(self):
        for claim, paper in SHOWN:
            source = lot(repr(claim)[:100])
            for other in near(claim, source):
                if accepts(other, paper):
                    self.assertIn(is_so(other), (True, None), (other, paper))
            for other in near(paper, source):
                self.assertIn(accepts(claim, other), (True, False))

    def test_what_is_no_claim_or_no_paper_at_all(self):
        for claim, paper in SHOWN:
            for odd in ODD:
                self.tells(False, accepts, claim=odd, paper=paper)
                self.tells(False, accepts, claim=claim[:1] + (odd,) * (len(claim) - 1), paper=paper)
                self.tells(False, accepts, claim=(odd, *claim[1:]), paper=paper)
                for k in range(1, len(claim)):
                    other = claim[:k] + (odd,) + claim[k + 1:]
                    self.same(accepts(other, paper) and is_so(other) is False, False)
                if not same(odd, paper):
                    self.tells(False, accepts, claim=claim, paper=odd)
                if isinstance(paper, tuple):
                    for k in range(len(paper)):
                        if not same(odd, paper[k]):
                            self.tells(False, accepts, claim=claim, paper=paper[:k] + (odd,) + paper[k + 1:])
            self.tells(False, accepts, claim=list(claim), paper=paper)
            self.tells(False, accepts, claim=claim + ("",), paper=paper)
            self.tells(False, accepts, claim=claim[:-1], paper=paper)
            if isinstance(paper, tuple):
                self.tells(False, accepts, claim=claim, paper=list(paper))

    def test_unknown_words(self):
        for word in ("", "Turning", "turning ", "not_turning", "whole", "stair", "grid"):
            self.tells(False, accepts, claim=(word, "grid whole: 1"), paper="grid whole: 1")
        self.tells(False, accepts, claim=(), paper=())
        self.tells(False, accepts, claim="turning", paper=())

    def test_texts_that_are_none(self):
        for text in ("grid whole: 01", "grid whole: 1 ", " grid whole: 1", "grid whole:1", "grid ratio: 1", "grid ratio: 2/2", "grid whole: 1;1", "grid rest 1: 0",
                     "grid rest 2: 2", "grid whole: +1", "grid whole: -0", "Grid whole: 1", "grid poly whole: (1,0)", "grid whole: ", "column whole: 1"):
            self.tells(False, accepts, claim=("turning", text), paper=text)
