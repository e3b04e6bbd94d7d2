from drawn import KINDS, drawn_grid, lot
from gridwright.benches import Bench
from gridwright.consoles import Console
from gridwright.dets import det
from gridwright.errors import InvalidDeed, InvalidLine, NoGoal, NotABench, NotAField, NothingToUndo, NotSquare, TooMany
from gridwright.grids import Grid, nought_grid, one_grid, trace
from gridwright.kinds import written
from gridwright.leading import led
from gridwright.logs import played
from gridwright.ratios import Ratio
from gridwright.stairs import rank
from support import SPOILT, Told
from test_benches import deeds_of_mode, some_benches, state
from test_conventions import DEEP, Claims, Refuses
from test_grids import NO_GRIDS

NO_LINES = (
    "", " ", "swap", "swap 0", "swap 0 1 2", "swap  0 1", "swap 0 1 ", " swap 0 1", "swap 00 1", "swap 0 01", "swap -1 0", "swap 0 +1", "swap 0 x", "swap 0 1/1",
    "Swap 0 1", "SWAP 0 1", "add 0 1", "add 0 1 2 3", "add 0 1 x", "add 0 1 01", "add 0 1 -0", "add 0 1  2", "add 0 1 2/1", "add -0 1 2", "scale 0", "scale 0 1 2",
    "scale x 1", "scale 0 -", "column", "column ", "column swap", "column swap 0", "column column swap 0 1", "column now", "column undo", "columns swap 0 1",
    "swap column 0 1", "Undo", "undo ", " undo", "undo 1", "now.", "goals", "deed", "many 1", "left right", "inverse", "log", "swap 0 1\n", "swap\t0 1", "swap, 0 1",
)


def line_of(deed):
    if deed[0] == "column":
        return "column " + line_of(deed[1])
    words = [deed[0]]
    for k, part in enumerate(deed[1:]):
        words.append(written(part) if deed[0] == "add" and k == 2 or deed[0] == "scale" and k == 1 else str(part))
    return " ".join(words)


class Saying(Told):
    def says(self, console, line, answer):
        self.same(console.say(line), answer)

    def test_deeds_and_what_they_show(self):
        source = lot("consoles")
        for grid, mode in some_benches(source, KINDS):
            console = Console(Bench(grid, mode))
            log = played(grid, mode, deeds_of_mode(mode, grid, 5, source)).log
            for k, deed in enumerate(log):
                self.same(console.say(line_of(deed)) if k % 2 else console.say(line=line_of(deed)), "done")
                bench = console.bench
                self.same(state(bench), state(played(grid, mode, log[:k + 1])))
                for line, answer in (("now", bench.now.text), ("start", grid.text), ("left", bench.left.text), ("right", bench.right.text), ("many", str(k + 1)),
                                     ("deeds", ", ".join(line_of(one) for one in log[:k + 1]))):
                    self.says(console, line, answer)
                    self.same(console.say(line=line), answer)
            for k in range(len(log), 0, -1):
                self.says(console, "many", str(k))
                self.says(console, "undo", "done")
            self.same([console.say("many"), console.say("deeds"), console.say("now")], ["0", "none", grid.text])
            self.refuses(NothingToUndo(), console.say, line="undo")

    def test_numbers(self):
        for kind in KINDS:
            source = lot(f"console numbers {kind}")
            grid = drawn_grid(kind, 3, 3, source)
            console = Console(Bench(grid, "rows"))
            self.same([console.say("determinant"), console.say("trace")], [written(det(grid)), written(trace(grid))])
            if kind == "ratio" or kind in ("rest 2", "rest 3", "rest 97", "rest 999983"):
                self.says(console, "rank", str(rank(grid)))
            else:
                self.refuses(NotAField(kind), console.say, line="rank")
            wide = Console(Bench(nought_grid(kind, 2, 3), "both"))
            for line in ("determinant", "trace"):
                self.refuses(NotSquare((2, 3)), wide.say, line=line)

    def test_goals(self):
        console = Console(Bench(Grid(((2, 4), (6, 8))), "both"))
        self.same([console.say("goal"), console.say("finish"), console.say("goal"), console.say("now")], ["no", "done", "yes", "grid whole: 2 0; 0 4"])
        many = int(console.say("many"))
        self.same([many > 0, console.say("finish"), console.say("many")], [True, "done", str(many)])
        for kind in ("rest 6", "poly whole"):
            none = Console(Bench(one_grid(kind, 2), "both"))
            for line in ("goal", "finish"):
                self.refuses(NoGoal(kind), none.say, line=line)
        great = Console(Bench(one_grid("poly ratio", 6), "both"))
        self.refuses(TooMany(6), great.say, line="finish")
        self.says(great, "goal", "yes")
        zero = Console(Bench(Grid(((0,),)), "rows"))
        self.same([zero.say("goal"), zero.say("deeds"), zero.say("right")], ["yes", "none", "grid whole: 1"])

    def test_the_document_s_words(self):
        console = Console(Bench(led(Grid(((1, 1), (0, 2))), "ratio"), "turn"))
        self.same([console.say("add 0 1 1/1"), console.say("now"), console.say("deeds")], ["done", "grid ratio: 1/1 2/1; 0/1 2/1", "add 0 1 1/1"])
        console = Console(Bench(one_grid("poly rest 3", 2), "both"))
        for line in ("column add 1 0 (0,2)", "scale 0 (2)", "swap 1 0", "column scale 1 (1)", "column swap 0 1", "add 0 1 ()"):
            self.says(console, line, "done")
        self.says(console, "deeds", "column add 1 0 (0,2), scale 0 (2), swap 1 0, column scale 1 (1), column swap 0 1, add 0 1 ()")

    def test_a_bench_changed_from_outside(self):
        bench = Bench(one_grid("whole", 2), "rows")
        console = Console(bench)
        bench.do(("swap", 0, 1))
        self.same([console.bench is bench, console.say("deeds"), console.say("undo"), len(bench)], [True, "swap 0 1", "done", 0])


class Refusals(Told):
    def test_benches(self):
        for value in [*NO_GRIDS, Grid(((1,),)), Bench, DEEP, Claims(), Refuses()]:
            self.refuses(NotABench(value), Console, bench=value)
        bench = Bench(one_grid("whole", 2), "rows")
        for console in (Console(bench), Console(bench=bench)):
            self.assertIs(console.bench, bench)
            self.same([console == console, console != console, console == Console(bench), bool(console)], [True, False, False, True])
            for value in (*SPOILT, DEEP, Claims(), Refuses(), bench):
                self.same([console == value, console != value], [False, True])

    def test_lines(self):
        for mode in ("rows", "both", "turn"):
            bench = Bench(one_grid("whole", 2), mode)
            console = Console(bench)
            for value in [*SPOILT, DEEP, Claims(), Refuses(), 5, ("undo",), b"undo", *NO_LINES]:
                self.refuses(InvalidLine(value), console.say, line=value)
            self.same([len(bench), bench.now], [0, bench.start])

    def test_numbers_of_the_bench_s_kind(self):
        told = {"whole": "-5", "ratio": "-5/3", "rest 7": "5", "poly ratio": "(0/1,1/2)", "rest 6": "3", "poly whole": "(1,-1)"}
        for kind in told:
            console = Console(Bench(one_grid(kind, 2), "rows"))
            for other, text in told.items():
                if other == kind or {other, kind} == {"rest 7", "whole"} and kind == "whole" or {other, kind} <= {"rest 6", "rest 7", "whole"} and "-" not in text:
                    self.same(console.say(f"add 0 1 {text}"), "done")
                else:
                    self.refuses(InvalidLine(f"add 0 1 {text}"), console.say, line=f"add 0 1 {text}")
        self.refuses(InvalidLine("add 0 1 7"), Console(Bench(one_grid("rest 7", 2), "rows")).say, line="add 0 1 7")

    def test_deeds_that_may_not_be_done(self):
        bench = Bench(led(nought_grid("whole", 2, 3), "ratio"), "both")
        console = Console(bench)
        for line, deed in (
            ("swap 0 0", ("swap", 0, 0)), ("swap 0 2", ("swap", 0, 2)), ("column swap 0 3", ("column", ("swap", 0, 3))), ("scale 0 0/1", ("scale", 0, Ratio(0))),
            ("add 1 1 2/1", ("add", 1, 1, Ratio(2))), ("add 0 99999999999999999999 1/1", ("add", 0, 99999999999999999999, Ratio(1))),
            ("column scale 2 0/1", ("column", ("scale", 2, Ratio(0)))),
        ):
            self.refuses(InvalidDeed(deed), console.say, line=line)
        self.same(len(bench), 0)
        for mode in ("rows", "turn"):
            console = Console(Bench(one_grid("whole", 2), mode))
            self.refuses(InvalidDeed(("column", ("swap", 0, 1))), console.say, line="column swap 0 1")
            self.refuses(InvalidDeed(("scale", 0, 2)), console.say, line="scale 0 2")
