from drawn import KINDS, drawn_grid, drawn_number, drawn_turning, drawn_whole_turning, lot
from gridwright.deeds import deeds_of, done, done_at_columns, is_deed, turning_of, way_back
from gridwright.errors import (
    InvalidDeed, InvalidKind, InvalidLog, InvalidNumber, NoInverse, NotAField, NotAGrid, NotSquare,
)
from gridwright.grids import Grid, exchange_grid, nought_grid, one_grid
from gridwright.kinds import is_unit, kind_of, number_in, number_of, one, unit_inverse
from gridwright.leading import led
from gridwright.polys import Poly
from gridwright.ratios import Ratio
from gridwright.rests import Rest
from gridwright.sides import inverse, is_turning
from samples import NO_KINDS
from support import SPOILT, Told, same
from test_conventions import DEEP, Claims, Refuses
from test_grids import NO_GRIDS, NO_SIDES

OF_DEEDS = ("whole", "ratio", "rest 2", "rest 97", "poly ratio", "poly rest 3")
NO_DEEDS = [
    *SPOILT, DEEP, Claims(), Refuses(), "swap", ("swap",), ("swap", 0), ("swap", 0, 0), ("swap", 0, 1, 1), ("swap", 0, 9), ("swap", -1, 0),
    ("swap", 0, True), ("swap", Ratio(0), 1), ["swap", 0, 1], ("Swap", 0, 1), ("add", 0, 1), ("add", 0, 0, 1), ("add", 0, 1, 1, 1),
    ("add", 0, 1, None), ("add", 0, 1, True), ("add", 0, 1, "1"), ("add", 0, 9, 1), ("scale", 0), ("scale", 0, 0), ("scale", 0, 1, 1),
    ("scale", 9, 1), ("scale", True, 1), ("scale", 0, None), (Claims(), 0, 1), (Refuses(), 0, 1), ("add", Claims(), 1, 1),
    ("add", 0, 1, Refuses()), ("scale", 0, Claims()), ("column", ("swap", 0, 1)), (None, 0, 1), (1, 0, 1), ("other", 0, 1),
]


def units(kind, source):
    """Some units of a kind."""
    found = [1, -1, one(kind)]
    for _ in range(20):
        number = drawn_number(kind, source)
        if is_unit(number):
            found.append(number)
    if kind == "poly ratio":
        found.append(Poly("ratio", (Ratio(-2, 3),)))
    return found


def drawn_deeds(kind, size, many, source):
    """A tuple of drawn deeds."""
    deeds = []
    for _ in range(many):
        i, j = source.sample(range(size), 2) if size > 1 else (0, 0)
        word = source.choice(("swap", "add", "add", "scale")) if size > 1 else "scale"
        deeds.append(("swap", i, j) if word == "swap" else ("add", i, j, drawn_number(kind, source)) if word == "add" else (
            "scale", i, source.choice(units(kind, source))))
    return tuple(deeds)


def plain_done(grid, deed):
    """A grid with a deed done at its rows, by the words of the document."""
    rows = [list(row) for row in grid.rows]
    if deed[0] == "swap":
        rows[deed[1]], rows[deed[2]] = rows[deed[2]], rows[deed[1]]
    elif deed[0] == "add":
        rows[deed[1]] = [a + deed[3] * b for a, b in zip(rows[deed[1]], rows[deed[2]])]
    else:
        rows[deed[1]] = [deed[2] * a for a in rows[deed[1]]]
    return Grid(tuple(tuple(row) for row in rows))


class WhatIsADeed(Told):
    def test_deeds_of_each_kind(self):
        for kind in KINDS:
            source = lot(f"deeds {kind}")
            for size in (1, 2, 5, 8):
                for deed in drawn_deeds(kind, size, 12, source):
                    self.tells(True, is_deed, kind=kind, size=size, value=deed)
            for number in (0, 5, drawn_number(kind, source)):
                self.tells(True, is_deed, kind=kind, size=2, value=("add", 1, 0, number))
                self.tells(is_unit(number_in(kind, number)), is_deed, kind=kind, size=2, value=("scale", 1, number))
            self.tells(False, is_deed, kind=kind, size=1, value=("swap", 0, 1))
            self.tells(True, is_deed, kind=kind, size=8, value=("swap", 7, 0))
            self.tells(False, is_deed, kind=kind, size=7, value=("swap", 7, 0))

    def test_everything_else_is_none(self):
        for kind in KINDS:
            for value in NO_DEEDS:
                self.tells(False, is_deed, kind=kind, size=8, value=value)
        self.tells(False, is_deed, kind="whole", size=2, value=("add", 0, 1, Ratio(1)))
        self.tells(False, is_deed, kind="whole", size=2, value=("scale", 0, 2))
        self.tells(False, is_deed, kind="rest 6", size=2, value=("scale", 0, 3))
        self.tells(True, is_deed, kind="rest 6", size=2, value=("scale", 0, 5))
        self.tells(False, is_deed, kind="rest 6", size=2, value=("add", 0, 1, Rest(1, 3)))
        self.tells(False, is_deed, kind="poly ratio", size=2, value=("scale", 0, Poly("ratio", (0, 1))))
        self.tells(False, is_deed, kind="poly ratio", size=2, value=("scale", 0, Ratio(2)))
        self.tells(True, is_deed, kind="poly ratio", size=2, value=("scale", 0, 2))
        self.tells(False, is_deed, kind="poly whole", size=2, value=("scale", 0, 2))

    def test_refusals_in_their_order(self):
        for value in [*SPOILT, *NO_KINDS]:
            self.refuses(InvalidKind(value), is_deed, kind=value, size=None, value=None)
        for value in NO_SIDES:
            self.refuses(InvalidNumber(value), is_deed, kind="whole", size=value, value=None)


class Done(Told):
    def test_at_rows(self):
        for kind in KINDS:
            source = lot(f"done {kind}")
            for height, width in ((1, 2), (2, 2), (3, 1), (4, 8)):
                grid = drawn_grid(kind, height, width, source)
                for deed in drawn_deeds(kind, height, 6, source):
                    expected = plain_done(grid, deed)
                    self.tells(expected, done, grid=grid, deed=deed)
                    self.same(turning_of(kind, height, (deed,)) * grid, expected)

    def test_at_columns(self):
        for kind in KINDS:
            source = lot(f"done at columns {kind}")
            for height, width in ((2, 1), (2, 2), (1, 3), (8, 4)):
                grid = drawn_grid(kind, height, width, source)
                for deed in drawn_deeds(kind, width, 6, source):
                    expected = plain_done(grid.turned, deed).turned
                    self.tells(expected, done_at_columns, grid=grid, deed=deed)
                    self.same(grid * turning_of(kind, width, (deed,)).turned, expected)

    def test_the_three_words(self):
        grid = Grid(((1, 2), (3, 4)))
        self.tells(Grid(((3, 4), (1, 2))), done, grid=grid, deed=("swap", 0, 1))
        self.tells(Grid(((7, 10), (3, 4))), done, grid=grid, deed=("add", 0, 1, 2))
        self.tells(Grid(((1, 2), (-3, -4))), done, grid=grid, deed=("scale", 1, -1))
        self.tells(Grid(((2, 1), (4, 3))), done_at_columns, grid=grid, deed=("swap", 0, 1))
        self.tells(Grid(((5, 2), (11, 4))), done_at_columns, grid=grid, deed=("add", 0, 1, 2))
        self.tells(Grid(((1, -2), (3, -4))), done_at_columns, grid=grid, deed=("scale", 1, -1))

    def test_refusals_in_their_order(self):
        for call in (done, done_at_columns):
            for value in NO_GRIDS:
                self.refuses(NotAGrid(value), call, grid=value, deed=None)
            for value in NO_DEEDS:
                self.refuses(InvalidDeed(value), call, grid=one_grid("whole", 8), deed=value)
        for call, good, wrong in ((done, ("swap", 0, 1), ("swap", 1, 2)), (done_at_columns, ("swap", 1, 2), ("swap", 2, 3))):
            grid = nought_grid("ratio", 2, 3)
            self.same(call(grid, good), grid)
            self.refuses(InvalidDeed(wrong), call, grid=grid, deed=wrong)


class WaysBack(Told):
    def test_taken_back(self):
        for kind in KINDS:
            source = lot(f"ways back {kind}")
            grid = drawn_grid(kind, 8, 3, source)
            for deed in drawn_deeds(kind, 8, 15, source):
                back = way_back(kind, deed)
                self.tells(back, way_back, kind=kind, deed=deed)
                self.same([done(done(grid, deed), back), is_deed(kind, 8, back)], [grid, True])
                if deed[0] != "swap":
                    self.same(kind_of(back[-1]), kind)

    def test_known_ones(self):
        for kind, deed, back in (
            ("whole", ("swap", 7, 0), ("swap", 7, 0)), ("whole", ("add", 0, 1, 3), ("add", 0, 1, -3)), ("whole", ("scale", 2, -1), ("scale", 2, -1)),
            ("ratio", ("add", 0, 1, 3), ("add", 0, 1, Ratio(-3))), ("ratio", ("scale", 2, 4), ("scale", 2, Ratio(1, 4))),
            ("rest 6", ("scale", 2, 5), ("scale", 2, Rest(5, 6))), ("rest 7", ("scale", 2, Rest(3, 7)), ("scale", 2, Rest(5, 7))),
            ("poly ratio", ("scale", 0, 2), ("scale", 0, Poly("ratio", (Ratio(1, 2),)))),
        ):
            self.tells(back, way_back, kind=kind, deed=deed)

    def test_refusals_in_their_order(self):
        for value in [*SPOILT, *NO_KINDS]:
            self.refuses(InvalidKind(value), way_back, kind=value, deed=None)
        for value in NO_DEEDS:
            self.refuses(InvalidDeed(value), way_back, kind="ratio", deed=value)
        self.refuses(InvalidDeed(("swap", 0, 8)), way_back, kind="ratio", deed=("swap", 0, 8))


class TurningGrids(Told):
    def test_of_deeds_one_after_the_other(self):
        for kind in KINDS:
            source = lot(f"turning of {kind}")
            for size in (1, 2, 4, 8):
                for many in (0, 1, 5, 9):
                    deeds = drawn_deeds(kind, size, many, source)
                    grid = one_grid(kind, size)
                    for deed in deeds:
                        grid = plain_done(grid, deed)
                    self.tells(grid, turning_of, kind=kind, size=size, deeds=deeds)
                    self.same(is_turning(grid), True)
                    for deed in deeds:
                        self.same(turning_of(kind, size, (deed, way_back(kind, deed))), one_grid(kind, size))

    def test_swaps_are_exchange_grids(self):
        self.tells(exchange_grid((2, 1, 0)), turning_of, kind="whole", size=3, deeds=(("swap", 0, 2),))
        self.tells(Grid(((1, 0), (7, 1))), turning_of, kind="whole", size=2, deeds=(("add", 1, 0, 7),))
        self.tells(Grid(((1, 0), (0, -1))), turning_of, kind="whole", size=2, deeds=(("scale", 1, -1),))

    def test_refusals_in_their_order(self):
        for value in [*SPOILT, *NO_KINDS]:
            self.refuses(InvalidKind(value), turning_of, kind=value, size=None, deeds=None)
        for value in NO_SIDES:
            self.refuses(InvalidNumber(value), turning_of, kind="whole", size=value, deeds=None)
        for value in [*[one for one in SPOILT if not isinstance(one, tuple)], Claims(), [("swap", 0, 1)]]:
            self.refuses(InvalidLog(None), turning_of, kind="whole", size=2, deeds=value)
        for value in [*NO_DEEDS, ("swap", 0, 2)]:
            self.refuses(InvalidLog(1), turning_of, kind="whole", size=2, deeds=(("swap", 0, 1), value, None))


class DeedsOf(Told):
    def holds(self, grid):
        """That the told deeds have this turning grid, and numbers of its kind."""
        for deeds in (deeds_of(grid), deeds_of(grid=grid)):
            self.same([type(deeds), turning_of(grid.kind, len(grid), deeds)], [tuple, grid])
            for deed in deeds:
                self.same(deed[0] == "swap" or kind_of(deed[-1]) == grid.kind, True)

    def test_turning_grids_of_each_kind(self):
        for kind in OF_DEEDS:
            source = lot(f"deeds of {kind}")
            for size in (1, 2, 3, 5):
                self.holds(turning_of(kind, size, drawn_deeds(kind, size, 8, source)))
                self.holds(drawn_turning(kind, size, source) if kind != "whole" else drawn_whole_turning(size, source))
                self.holds(one_grid(kind, size))
                self.holds(-one_grid(kind, size))
            self.holds(led(exchange_grid((3, 0, 4, 1, 2)), kind))

    def test_of_eight_rows(self):
        source = lot("deeds of eight")
        for kind in ("whole", "ratio", "rest 97", "poly rest 3"):
            self.holds(turning_of(kind, 8, drawn_deeds(kind, 8, 30, source)))
        self.holds(drawn_whole_turning(8, source, 80))

    def test_great_numbers(self):
        far = 10 ** 40 + 7
        self.holds(Grid(((1, far), (0, 1))) * Grid(((1, 0), (-far + 5, 1))))
        self.holds(Grid(((Ratio(far, 3), 1), (0, Ratio(1, far)))))
        self.holds(Grid(((0, 1), (-1, far))))

    def test_refusals_in_their_order(self):
        for value in NO_GRIDS:
            self.refuses(NotAGrid(value), deeds_of, grid=value)
        for kind in ("rest 4", "rest 6", "rest 1000000", "poly whole"):
            self.refuses(NotAField(kind), deeds_of, grid=nought_grid(kind, 2, 3))
        for kind in OF_DEEDS:
            self.refuses(NotSquare((2, 3)), deeds_of, grid=nought_grid(kind, 2, 3))
            self.refuses(NoInverse(), deeds_of, grid=nought_grid(kind, 2, 2))
        self.refuses(NoInverse(), deeds_of, grid=Grid(((2, 0), (0, 1))))
        x = Poly("ratio", (0, 1))
        self.refuses(NoInverse(), deeds_of, grid=Grid(((x, 0), (0, 1))))
        self.holds(Grid(((x, 1), (x * x - 1, x))))
        self.same(inverse(Grid(((x, 1), (x * x - 1, x)))) == Grid(((x, -1), (1 - x * x, x))), True)
        self.same(same(unit_inverse(number_of("ratio", 2)), Ratio(1, 2)), True)
