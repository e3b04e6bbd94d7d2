from drawn import (
    KINDS, all_grids, chains_of_polys, drawn_grid, drawn_of_rank, drawn_whole, drawn_whole_turning, lot, plain_blocks, turned_around,
)
from gridwright.benches import Bench
from gridwright.columns import Column
from gridwright.cores import are_led, core_grid
from gridwright.deeds import done, done_at_columns, turning_of, way_back
from gridwright.errors import InvalidDeed, InvalidMode, NoGoal, NotAGrid, NothingToUndo, NotSquare, TooMany
from gridwright.followers import block_form
from gridwright.grids import Grid, diagonal_grid, nought_grid, one_grid
from gridwright.kinds import is_field, kind_of, nought, one
from gridwright.logs import played
from gridwright.polys import Poly
from gridwright.ratios import Ratio
from gridwright.rests import Rest
from gridwright.sides import inverse, is_turning
from gridwright.similar import is_alike
from gridwright.stairs import rank, row_turning, stair_form
from gridwright.wholestairs import whole_stair
from support import SPOILT, Told, same
from test_conventions import DEEP, Claims, Refuses
from test_deeds import NO_DEEDS, drawn_deeds
from test_grids import NO_GRIDS

MODES = ("rows", "both", "turn")
FIELD_KINDS = ("ratio", "rest 2", "rest 3", "rest 97")
POLY_KINDS = ("poly ratio", "poly rest 3")
NO_MODES = [*SPOILT, DEEP, Claims(), Refuses(), "row", "Rows", "turns", " both", ("rows",), "columns"]


class Wrong(Exception):
    pass


def deeds_of_mode(mode, grid, many, source):
    """A tuple of drawn deeds of a mode."""
    found = []
    for _ in range(many):
        if mode == "both" and source.random() < 0.5:
            found.append(("column", drawn_deeds(grid.kind, grid.shape[1], 1, source)[0]))
        else:
            found.extend(drawn_deeds(grid.kind, grid.shape[0], 1, source))
    return tuple(found)


def state(bench):
    """All that a bench shows."""
    return [bench.start, bench.now, bench.mode, bench.left, bench.left_inverse, bench.right, bench.right_inverse, bench.log, len(bench)]


def plain_state(grid, mode, log):
    """The same by plain means: all deeds done one after the other."""
    now, left, right = grid, one_grid(grid.kind, grid.shape[0]), one_grid(grid.kind, grid.shape[1])
    for deed in log:
        if deed[0] == "column":
            now, right = done_at_columns(now, deed[1]), done_at_columns(right, deed[1])
        else:
            now, left = done(now, deed), done(left, deed)
            if mode == "turn":
                back = turning_of(grid.kind, len(grid), (way_back(grid.kind, deed),))
                now, right = now * back, right * back
    return [grid, now, mode, left, inverse(left), right, inverse(right), log, len(log)]


def with_numbers(kind, deed):
    """A deed with its number of the kind."""
    if deed[0] == "column":
        return ("column", with_numbers(kind, deed[1]))
    return deed if deed[0] == "swap" else (*deed[:-1], one(kind) * deed[-1])


def some_benches(source, kinds=KINDS):
    """Pairs of a grid and a mode, over all kinds and several shapes."""
    for kind in kinds:
        for height, width in ((1, 1), (2, 2), (2, 3), (3, 1), (3, 3)):
            grid = drawn_grid(kind, height, width, source)
            for mode in MODES:
                if mode != "turn" or height == width:
                    yield grid, mode


class Shown(Told):
    def test_after_each_deed_and_undoing(self):
        source = lot("benches")
        for grid, mode in some_benches(source):
            for bench in (Bench(grid, mode), Bench(mode=mode, grid=grid)):
                self.same(state(bench), plain_state(grid, mode, ()))
            log = ()
            for deed in deeds_of_mode(mode, grid, 6, source):
                self.same(bench.do(deed) if len(log) % 2 else bench.do(deed=deed), None)
                log += (with_numbers(grid.kind, deed),)
                self.same(state(bench), plain_state(grid, mode, log))
                self.same([bench.left * grid * bench.right, is_turning(bench.left)], [bench.now, True])
                self.same(bench.left, turning_of(grid.kind, grid.shape[0], tuple(one for one in log if one[0] != "column")))
                columns = tuple(one[1] for one in log if one[0] == "column")
                if mode == "turn":
                    self.same(bench.now * bench.left, bench.left * grid)
                    self.same([bench.right, bench.right_inverse], [bench.left_inverse, bench.left])
                else:
                    self.same(bench.right.turned, turning_of(grid.kind, grid.shape[1], columns))
                if len(log) % 3 == 0:
                    self.same(bench.undo(), None)
                    log = log[:-1]
                    self.same(state(bench), plain_state(grid, mode, log))
            while log:
                bench.undo()
                log = log[:-1]
                self.same(state(bench), plain_state(grid, mode, log))
            self.refuses(NothingToUndo(), bench.undo)
            self.same(state(bench), plain_state(grid, mode, ()))

    def test_of_eight_rows(self):
        source = lot("eight")
        for kind in ("whole", "ratio", "rest 6"):
            grid = drawn_grid(kind, 8, 8, source)
            for mode in MODES:
                log = deeds_of_mode(mode, grid, 5, source)
                bench = played(grid, mode, log)
                self.same(state(bench), plain_state(grid, mode, tuple(with_numbers(kind, deed) for deed in log)))

    def test_numbers_in_the_log_are_of_the_kind(self):
        for kind in KINDS:
            bench = Bench(one_grid(kind, 2), "both")
            bench.do(("add", 0, 1, 5))
            bench.do(("column", ("scale", 1, -1)))
            self.same([kind_of(bench.log[0][3]), kind_of(bench.log[1][1][2])], [kind, kind])
        bench = Bench(one_grid("ratio", 2), "rows")
        bench.do(("scale", 0, 3))
        self.same(bench.log, (("scale", 0, Ratio(3)),))

    def test_truth_and_equality(self):
        bench, other = Bench(one_grid("whole", 2), "rows"), Bench(one_grid("whole", 2), "rows")
        self.same([bool(bench), bench == bench, bench != bench, bench == other, bench != other, len(bench)], [True, True, False, False, True, 0])
        for value in (*SPOILT, DEEP, Claims(), Refuses(), Bench, one_grid("whole", 2)):
            self.same([bench == value, bench != value], [False, True])

    def test_deeds_that_are_none_of_the_mode(self):
        for mode in MODES:
            bench = Bench(one_grid("whole", 8), mode)
            for value in NO_DEEDS:
                if mode != "both" or not same(value, ("column", ("swap", 0, 1))):
                    self.refuses(InvalidDeed(value), bench.do, deed=value)
            for value in (("column",), ("column", ("swap", 0, 1), 1), ("column", ("column", ("swap", 0, 1))), ("column", None), ["column", ("swap", 0, 1)],
                          (Claims(), ("swap", 0, 1)), (Refuses(), ("swap", 0, 1)), ("columns", ("swap", 0, 1)), ("column", ("scale", 0, 2))):
                self.refuses(InvalidDeed(value), bench.do, deed=value)
            self.same([state(bench), len(bench)], [plain_state(one_grid("whole", 8), mode, ()), 0])
        bench = Bench(nought_grid("whole", 2, 3), "both")
        bench.do(("column", ("swap", 0, 2)))
        for value in (("swap", 0, 2), ("column", ("swap", 0, 3))):
            self.refuses(InvalidDeed(value), bench.do, deed=value)
        rows = Bench(nought_grid("whole", 3, 2), "rows")
        self.refuses(InvalidDeed(("column", ("swap", 0, 1))), rows.do, deed=("column", ("swap", 0, 1)))

    def test_refusals_of_benches(self):
        for value in NO_GRIDS:
            self.refuses(NotAGrid(value), Bench, grid=value, mode=None)
        for value in NO_MODES:
            self.refuses(InvalidMode(value), Bench, grid=nought_grid("whole", 2, 3), mode=value)
        self.refuses(NotSquare((2, 3)), Bench, grid=nought_grid("whole", 2, 3), mode="turn")
        self.refuses(NotSquare((3, 1)), Bench, grid=nought_grid("rest 6", 3, 1), mode="turn")


def plain_goal(grid, mode):
    """The goal of a mode, by the functions ahead; None if there is none."""
    if mode == "turn":
        return block_form(grid) if is_field(grid.kind) else None
    if mode == "rows":
        return stair_form(grid) if is_field(grid.kind) else whole_stair(grid) if grid.kind == "whole" else None
    if grid.kind == "whole" or grid.kind in POLY_KINDS:
        return core_grid(grid)
    if not is_field(grid.kind):
        return None
    many = rank(grid)
    return Grid(tuple(tuple(
        one(grid.kind) if i == j < many else nought(grid.kind) for j in range(grid.shape[1])) for i in range(grid.shape[0])))


class Goals(Told):
    def reaches(self, grid, mode):
        """That the ways lead to the goal, and finishing does them, or that there is none."""
        goal, bench = plain_goal(grid, mode), Bench(grid, mode)
        if goal is None:
            for call in (bench.is_goal, bench.ways, bench.finish):
                self.refuses(NoGoal(grid.kind), call)
            self.same(len(bench), 0)
            return
        self.same(bench.is_goal(), grid == goal)
        ways = bench.ways()
        self.same([type(ways), len(bench), bench.ways()], [tuple, 0, ways])
        other = played(grid, mode, ways)
        self.same([other.now, other.is_goal()], [goal, True])
        self.same([bench.finish(), bench.now, bench.is_goal(), bench.ways(), bench.log], [None, goal, True, (), ways])
        self.same(bench.left * grid * bench.right, goal)
        bench.finish()
        self.same(bench.log, ways)
        for _ in ways:
            bench.undo()
        self.same([bench.now, len(bench)], [grid, 0])

    def test_over_fields(self):
        for kind in FIELD_KINDS:
            source = lot(f"goals {kind}")
            for height, width in ((1, 1), (1, 3), (3, 1), (2, 2), (3, 3), (2, 4), (5, 5)):
                for wanted in range(min(height, width, 3) + 1):
                    grid = drawn_of_rank(kind, height, width, wanted, source)
                    for mode in MODES:
                        if mode != "turn" or height == width:
                            self.reaches(grid, mode)
            for polys in list(chains_of_polys(kind, 4))[::2]:
                self.reaches(turned_around(plain_blocks(polys), source), "turn")
                self.reaches(plain_blocks(polys), "turn")

    def test_whole(self):
        source = lot("whole goals")
        for height, width in ((1, 1), (1, 3), (3, 1), (2, 2), (3, 3), (2, 4), (4, 4)):
            for mode in ("rows", "both"):
                self.reaches(drawn_whole(height, width, source), mode)
                self.reaches(nought_grid("whole", height, width), mode)
        self.reaches(drawn_whole_turning(5, source), "rows")
        self.reaches(Grid(((4, 6), (6, 9))), "both")
        self.reaches(Grid(((-3,),)), "both")
        self.reaches(Grid(((4, 0), (0, 6))), "both")
        self.reaches(drawn_whole(8, 8, source), "both")

    def test_polys(self):
        for kind in POLY_KINDS:
            source = lot(f"poly goals {kind}")
            for height, width in ((1, 1), (1, 3), (2, 2), (3, 2), (3, 3)):
                self.reaches(drawn_grid(kind, height, width, source), "both")
                self.reaches(nought_grid(kind, height, width), "both")
            x = Poly(kind[5:], (0, 1))
            self.reaches(Grid(((x, 0), (0, x - 1))), "both")
            self.reaches(Grid(((x * 2, 0), (0, 1))), "both")
            self.reaches(diagonal_grid(kind, (x, 1, x + 1, 0, 2)), "both")
            self.reaches(nought_grid(kind, 5, 1), "both")

    def test_other_kinds_have_none(self):
        for kind in ("rest 4", "rest 6", "rest 1000000", "poly whole"):
            for mode in MODES:
                self.reaches(one_grid(kind, 2), mode)
        for kind in POLY_KINDS:
            self.reaches(one_grid(kind, 2), "rows")
            self.reaches(one_grid(kind, 2), "turn")
        self.reaches(one_grid("whole", 2), "turn")

    def test_polys_of_more_than_five_rows(self):
        for kind in POLY_KINDS:
            for grid in (one_grid(kind, 6), nought_grid(kind, 2, 7), nought_grid(kind, 8, 1)):
                bench = Bench(grid, "both")
                for call in (bench.ways, bench.finish):
                    self.refuses(TooMany(max(grid.shape)), call)
                self.same(bench.is_goal(), True)
                bench.do(("swap", 0, 1))
                self.same(bench.is_goal(), not grid)
            x = Poly(kind[5:], (0, 1))
            for entries, expected in (((1, x, x, x * x, 0, 0), True), ((1, x, x - 1, 0, 0, 0), False), ((x, 1, 1, 1, 1, 1), False),
                                      ((1, 1, 1, 0, 1, 1), False), ((1, 1, 1, 1, 1, x * -1), False), ((1, 1, 1, 1, 1, x - 1), True)):
                self.same(Bench(diagonal_grid(kind, entries), "both").is_goal(), expected)
        for kind in ("poly whole", "rest 6"):
            self.refuses(NoGoal(kind), Bench(nought_grid(kind, 8, 8), "both").ways)

    def test_just_the_goals_are_at_the_goal(self):
        for prime, size in ((2, 2), (3, 2), (2, 3)):
            for grid in list(all_grids(prime, size, size))[::1 if size == 2 else 5]:
                for mode in MODES:
                    self.same(Bench(grid, mode).is_goal(), grid == plain_goal(grid, mode))
        source = lot("whole forms")
        for _ in range(60):
            grid = drawn_whole(2, 2, source, 2)
            for mode in ("rows", "both"):
                self.same(Bench(grid, mode).is_goal(), grid == plain_goal(grid, mode))
        for rows, mode, expected in (
            (((0, 0), (0, 1)), "rows", False), (((1, 2), (0, 2)), "rows", False), (((1, 1), (0, 2)), "rows", True), (((1, -1), (0, 2)), "rows", False),
            (((-1, 0), (0, 1)), "rows", False), (((0, 1), (1, 0)), "rows", False), (((2, 0), (0, 3)), "both", False), (((2, 0), (0, 4)), "both", True),
            (((0, 0), (0, 1)), "both", False), (((2, 0), (0, -4)), "both", False), (((1, 1), (0, 1)), "both", False), (((1, 0), (0, 0)), "both", True),
        ):
            self.same(Bench(Grid(rows), mode).is_goal(), expected)

    def test_led_into_one_another_exactly_if_they_have_one_goal(self):
        grids = list(all_grids(2, 2, 2))
        for grid in grids:
            for other in grids:
                for mode, expected in (("rows", row_turning(grid, other) is not None), ("both", rank(grid) == rank(other)), ("turn", is_alike(grid, other))):
                    first, second = Bench(grid, mode), Bench(other, mode)
                    first.finish()
                    second.finish()
                    self.same(first.now == second.now, expected)
        source = lot("whole pairs")
        for _ in range(20):
            grid, other = drawn_whole(2, 2, source, 2), drawn_whole(2, 2, source, 2)
            first, second = Bench(grid, "both"), Bench(other, "both")
            first.finish()
            second.finish()
            self.same(first.now == second.now, are_led(grid, other))


class Trials(Told):
    def fresh(self):
        bench = Bench(Grid(((1, 2), (3, 4))), "both")
        bench.do(("add", 0, 1, 1))
        return bench

    def test_a_trial_that_ends_well_stays(self):
        bench = self.fresh()
        with bench.trial() as same:
            self.assertIs(same, bench)
            bench.do(("swap", 0, 1))
        self.same(bench.log, (("add", 0, 1, 1), ("swap", 0, 1)))

    def test_a_trial_that_ends_with_an_exception_is_taken_back(self):
        for error in (Wrong, InvalidDeed(None), KeyboardInterrupt, StopIteration, NothingToUndo):
            bench = self.fresh()
            before = state(bench)
            with self.assertRaises(BaseException) as caught:
                with bench.trial():
                    bench.do(("swap", 0, 1))
                    bench.undo()
                    bench.undo()
                    bench.do(("column", ("scale", 0, -1)))
                    raise error
            self.assertTrue(caught.exception is error or type(caught.exception) is error)
            self.same(state(bench), before)
            bench.undo()
            self.same([bench.now, len(bench)], [bench.start, 0])
            self.refuses(NothingToUndo(), bench.undo)

    def test_errors_of_the_bench_itself_are_passed_on(self):
        bench = self.fresh()
        before = state(bench)
        with self.assertRaises(InvalidDeed):
            with bench.trial() as same:
                same.do(("swap", 0, 1))
                same.do(None)
        self.same(state(bench), before)
        # What is caught within the rows is no end of them.
        with bench.trial():
            bench.do(("swap", 0, 1))
            try:
                bench.do(None)
            except InvalidDeed:
                pass
        self.same(len(bench), 2)

    def test_a_call_alone_changes_nothing(self):
        bench = self.fresh()
        before = state(bench)
        trial = bench.trial()
        self.same(state(bench), before)
        bench.do(("swap", 0, 1))
        with self.assertRaises(Wrong):
            # The rows begin here, not where the trial was made.
            with trial:
                bench.do(("swap", 0, 1))
                raise Wrong
        self.same(len(bench), 2)
        for value in (None, trial, Claims(), Refuses(), bench.trial()):
            self.same([trial == value, trial != value], [value is trial, value is not trial])
        self.same(bool(trial), True)

    def test_trials_within_trials(self):
        bench = self.fresh()
        before = state(bench)
        with self.assertRaises(Wrong):
            with bench.trial():
                bench.do(("swap", 0, 1))
                middle = state(bench)
                with self.assertRaises(InvalidDeed):
                    with bench.trial():
                        bench.do(("scale", 0, -1))
                        bench.do(1)
                self.same(state(bench), middle)
                with bench.trial():
                    bench.do(("scale", 1, -1))
                self.same(len(bench), 3)
                raise Wrong
        self.same(state(bench), before)

    def test_one_trial_several_times_and_within_itself(self):
        bench = self.fresh()
        trial = bench.trial()
        for _ in range(3):
            before = state(bench)
            with self.assertRaises(Wrong):
                with trial:
                    bench.do(("swap", 0, 1))
                    raise Wrong
            self.same(state(bench), before)
            bench.do(("scale", 0, -1))
        before = state(bench)
        with self.assertRaises(Wrong):
            with trial:
                bench.do(("swap", 0, 1))
                inner = state(bench)
                with self.assertRaises(KeyError):
                    with trial:
                        bench.do(("swap", 0, 1))
                        raise KeyError
                self.same(state(bench), inner)
                raise Wrong
        self.same(state(bench), before)

    def test_tried(self):
        bench = self.fresh()
        before = state(bench)
        self.same(bench.tried(lambda same: (same is bench, same.do(("swap", 0, 1)), 5)), (True, None, 5))
        self.same(len(bench), 2)
        bench.undo()

        def wrong(same):
            same.do(("swap", 0, 1))
            same.finish()
            raise Wrong

        for call in (lambda: bench.tried(wrong), lambda: bench.tried(action=wrong)):
            self.assertRaises(Wrong, call)
            self.same(state(bench), before)
        self.same(bench.tried(action=len), 1)
        self.same(bench.tried(lambda one: one.tried(lambda other: other.tried(id))), id(bench))

    def test_two_benches_at_once(self):
        one, other = self.fresh(), self.fresh()
        with self.assertRaises(Wrong):
            with one.trial(), other.trial():
                one.do(("swap", 0, 1))
                other.do(("swap", 0, 1))
                raise Wrong
        self.same([len(one), len(other)], [1, 1])


class NothingGivenChanges(Told):
    def test_grids_stay_as_they_are(self):
        grid = Grid(((Rest(1, 6), 2), (3, 5)))
        text = grid.text
        bench = Bench(grid, "turn")
        bench.do(("add", 0, 1, 1))
        bench.do(("swap", 0, 1))
        self.same([grid.text, bench.start is grid, bench.now == grid], [text, True, False])
        shown = bench.now
        bench.undo()
        self.same([shown == bench.now, len(bench.log), Column((1,)) == bench], [False, 1, False])
