from drawn import KINDS, lot
from gridwright.benches import Bench
from gridwright.deeds import turning_of, way_back
from gridwright.errors import InvalidKind, InvalidLog, InvalidMode, NotAGrid, NotSquare
from gridwright.grids import nought_grid, one_grid
from gridwright.kinds import kind_of, one
from gridwright.logs import drawn_together, played, way_home
from gridwright.polys import Poly
from gridwright.ratios import Ratio
from gridwright.rests import Rest
from samples import NO_KINDS
from support import SPOILT, Told, same
from test_benches import MODES, NO_MODES, deeds_of_mode, plain_state, some_benches, state, with_numbers
from test_conventions import Claims, Refuses
from test_deeds import NO_DEEDS, drawn_deeds
from test_grids import NO_GRIDS

NO_LOGS = [*[value for value in SPOILT if not isinstance(value, tuple)], Claims(), Refuses(), [("swap", 0, 1)]]


def merged(kind, one_deed, other):
    """What two neighbours are replaced by; None if they stay."""
    if one_deed[0] != other[0]:
        return None
    if one_deed[0] == "swap":
        return () if {one_deed[1], one_deed[2]} == {other[1], other[2]} else None
    if one_deed[0] == "add":
        if one_deed[1:3] != other[1:3]:
            return None
        total = one_deed[3] + other[3]
        return (("add", *one_deed[1:3], total),) if total else ()
    if one_deed[1] != other[1]:
        return None
    total = one_deed[2] * other[2]
    return () if total == one(kind) else (("scale", one_deed[1], total),)


def plain_together(kind, log):
    """The log drawn together step by step, always the first two such neighbours."""
    found = tuple(with_numbers(kind, deed) for deed in log)
    changed = True
    while changed:
        changed = False
        for k in range(len(found) - 1):
            instead = merged(kind, found[k], found[k + 1])
            if instead is not None:
                found, changed = found[:k] + instead + found[k + 2:], True
                break
    return found


def near_logs(kind, size, source):
    """Logs in which many neighbours are of one sort."""
    for many in (0, 1, 2, 6, 12):
        log = []
        for deed in drawn_deeds(kind, size, many, source):
            log.append(deed)
            for _ in range(source.choice((0, 1, 1, 2))):
                log.append(source.choice((deed, way_back(kind, deed))))
        yield tuple(log)
        yield tuple(log) + way_home(kind, tuple(log))


class Played(Told):
    def test_a_fresh_bench(self):
        source = lot("played")
        for grid, mode in some_benches(source):
            for many in (0, 1, 4):
                log = deeds_of_mode(mode, grid, many, source)
                expected = plain_state(grid, mode, tuple(with_numbers(grid.kind, deed) for deed in log))
                for bench in (played(grid, mode, log), played(log=log, mode=mode, grid=grid)):
                    self.same([type(bench), state(bench)], [Bench, expected])
                self.same(state(played(grid, mode, bench.log)), expected)
        one_bench, other = played(one_grid("whole", 2), "rows", ()), played(one_grid("whole", 2), "rows", ())
        self.same(one_bench == other, False)

    def test_refusals_in_their_order(self):
        for value in NO_GRIDS:
            self.refuses(NotAGrid(value), played, grid=value, mode=None, log=None)
        for value in NO_MODES:
            self.refuses(InvalidMode(value), played, grid=nought_grid("whole", 2, 3), mode=value, log=None)
        self.refuses(NotSquare((2, 3)), played, grid=nought_grid("whole", 2, 3), mode="turn", log=None)
        for mode in MODES:
            for value in NO_LOGS:
                self.refuses(InvalidLog(None), played, grid=one_grid("whole", 8), mode=mode, log=value)
            for value in NO_DEEDS:
                if mode != "both" or not same(value, ("column", ("swap", 0, 1))):
                    self.refuses(InvalidLog(1), played, grid=one_grid("whole", 8), mode=mode, log=(("swap", 0, 1), value, None))
            self.refuses(InvalidLog(0), played, grid=one_grid("whole", 2), mode=mode, log=(("swap", 0, 2),))
        self.refuses(InvalidLog(0), played, grid=nought_grid("whole", 3, 2), mode="both", log=(("column", ("swap", 0, 2)),))


class WaysHome(Told):
    def test_they_undo_the_log(self):
        for kind in KINDS:
            source = lot(f"ways home {kind}")
            for many in (0, 1, 7):
                log = drawn_deeds(kind, 8, many, source)
                home = way_home(kind, log)
                self.tells(tuple(way_back(kind, deed) for deed in log[::-1]), way_home, kind=kind, log=log)
                self.same(turning_of(kind, 8, log + home), one_grid(kind, 8))
                self.same(way_home(kind, home), tuple(with_numbers(kind, deed) for deed in log))


class DrawnTogether(Told):
    def test_as_long_as_there_are_such_neighbours(self):
        for kind in KINDS:
            source = lot(f"drawn together {kind}")
            for size in (2, 3):
                for log in near_logs(kind, size, source):
                    found = drawn_together(kind, log)
                    self.tells(plain_together(kind, log), drawn_together, kind=kind, log=log)
                    self.same(turning_of(kind, size, found), turning_of(kind, size, log))
                    self.same(drawn_together(kind, found), found)

    def test_there_and_back_is_nothing(self):
        for kind in KINDS:
            log = drawn_deeds(kind, 4, 9, lot(f"back {kind}"))
            self.tells((), drawn_together, kind=kind, log=log + way_home(kind, log))

    def test_known_ones(self):
        for kind, log, found in (
            ("whole", (), ()), ("whole", (("add", 0, 1, 0),), (("add", 0, 1, 0),)), ("whole", (("scale", 0, 1),), (("scale", 0, 1),)),
            ("whole", (("swap", 0, 1), ("swap", 1, 0)), ()), ("whole", (("swap", 0, 1),) * 3, (("swap", 0, 1),)),
            ("whole", (("swap", 0, 1), ("swap", 0, 2)), (("swap", 0, 1), ("swap", 0, 2))),
            ("whole", (("add", 0, 1, 2), ("add", 0, 1, 3)), (("add", 0, 1, 5),)), ("whole", (("add", 0, 1, 2), ("add", 1, 0, 3)), (("add", 0, 1, 2), ("add", 1, 0, 3))),
            ("whole", (("add", 0, 1, 2), ("add", 0, 1, -2)), ()), ("whole", (("scale", 0, -1), ("scale", 0, -1)), ()),
            ("whole", (("scale", 0, -1), ("scale", 1, -1)), (("scale", 0, -1), ("scale", 1, -1))),
            ("whole", (("swap", 0, 1), ("add", 0, 1, 1), ("add", 0, 1, -1), ("swap", 0, 1)), ()),
            ("whole", (("add", 0, 1, 0), ("add", 0, 1, 0)), ()), ("whole", (("scale", 2, 1), ("scale", 2, 1)), ()),
            ("ratio", (("add", 0, 1, 2), ("add", 0, 1, Ratio(1, 2))), (("add", 0, 1, Ratio(5, 2)),)),
            ("rest 5", (("scale", 0, 2), ("scale", 0, 3)), ()), ("rest 5", (("scale", 0, 2), ("scale", 0, 2)), (("scale", 0, Rest(4, 5)),)),
            ("poly ratio", (("add", 7, 0, Poly("ratio", (0, 1))),) * 2, (("add", 7, 0, Poly("ratio", (0, 2))),)),
        ):
            self.tells(found, drawn_together, kind=kind, log=log)

    def test_numbers_are_of_the_kind(self):
        for kind in KINDS:
            for deed in drawn_together(kind, (("add", 0, 1, 1), ("swap", 0, 1), ("scale", 0, -1))):
                self.same(deed[0] == "swap" or kind_of(deed[-1]) == kind, True)


class Refusals(Told):
    def test_in_their_order(self):
        for call in (way_home, drawn_together):
            for value in [*SPOILT, *NO_KINDS]:
                self.refuses(InvalidKind(value), call, kind=value, log=None)
            for value in NO_LOGS:
                self.refuses(InvalidLog(None), call, kind="ratio", log=value)
            for value in NO_DEEDS:
                self.refuses(InvalidLog(1), call, kind="ratio", log=(("swap", 0, 7), value, None))
            self.refuses(InvalidLog(0), call, kind="ratio", log=(("swap", 0, 8),))
