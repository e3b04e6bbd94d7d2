from itertools import product
from math import lcm

from drawn import KINDS, drawn_column, drawn_grid, drawn_number, lot
from gridwright.columns import Column
from gridwright.errors import InvalidKind, NotANumber, NotAUnit, NotLed, NotWhole
from gridwright.grids import Grid, nought_grid
from gridwright.kinds import kind_of, nought, number_of, one
from gridwright.leading import led, to_whole
from gridwright.polys import Poly
from gridwright.ratios import Ratio
from gridwright.rests import Rest
from samples import NO_KINDS
from support import SPOILT, Told

LEADS = {
    "whole": ("whole", "ratio", "rest 2", "rest 3", "rest 4", "rest 6", "rest 12", "poly whole", "poly ratio",
              "poly rest 2", "poly rest 3"),
    "ratio": ("ratio", "rest 2", "rest 3", "rest 4", "rest 6", "rest 12", "poly ratio", "poly rest 2", "poly rest 3"),
    "rest 2": ("rest 2", "poly rest 2"),
    "rest 3": ("rest 3", "poly rest 3"),
    "rest 4": ("rest 2", "rest 4", "poly rest 2"),
    "rest 6": ("rest 2", "rest 3", "rest 6", "poly rest 2", "poly rest 3"),
    "rest 12": ("rest 2", "rest 3", "rest 4", "rest 6", "rest 12", "poly rest 2", "poly rest 3"),
    "poly whole": ("poly whole", "poly ratio", "poly rest 2", "poly rest 3"),
    "poly ratio": ("poly ratio", "poly rest 2", "poly rest 3"),
    "poly rest 2": ("poly rest 2",),
    "poly rest 3": ("poly rest 3",),
}
NO_VALUES = [*SPOILT, "whole", ((1,),), Column, [Column((1,))]]


def unlike_values(kind):
    """A number of a kind, with a column and grids of it."""
    number = one(kind) + one(kind) + one(kind)
    return number, Column((number, 0)), Grid(((number,),)), Grid(((0, 1, number), (2, 0, 0)))


def kind_of_value(value):
    return value.kind if isinstance(value, (Column, Grid)) else kind_of(value)


class WhatLeads(Told):
    def test_each_kind_to_each(self):
        for kind, other in product(LEADS, LEADS):
            for value in unlike_values(kind):
                if other in LEADS[kind]:
                    three = number_of(other, 3)
                    expected = {
                        Column: lambda: Column((three, 0)),
                        Grid: lambda: Grid(((three,),)) if value.shape == (1, 1) else Grid(((0, 1, three), (2, 0, 0))),
                    }.get(type(value), lambda: three)()
                    self.tells(expected, led, value=value, kind=other)
                else:
                    self.refuses(NotLed(kind, other), led, value=value, kind=other)

    def test_each_kind_to_itself(self):
        source = lot("itself")
        for kind in KINDS:
            for value in (drawn_number(kind, source), drawn_column(kind, 3, source), drawn_grid(kind, 2, 3, source)):
                self.tells(value, led, value=value, kind=kind)

    def test_moduli_that_do_not_divide(self):
        for modulus, other in ((12, 5), (12, 8), (12, 24), (3, 12), (7, 5), (10, 3), (6, 1000000)):
            self.refuses(NotLed(f"rest {modulus}", f"rest {other}"), led, value=Rest(1, modulus), kind=f"rest {other}")
        self.refuses(NotLed("rest 12", "poly rest 5"), led, value=Rest(1, 12), kind="poly rest 5")
        self.refuses(NotLed("poly rest 5", "poly rest 3"), led, value=Poly("rest 5", (1,)), kind="poly rest 3")
        self.refuses(NotLed("poly whole", "ratio"), led, value=Poly("whole", (1,)), kind="ratio")
        self.refuses(NotLed("ratio", "whole"), led, value=Ratio(2), kind="whole")


class Numbers(Told):
    def test_ratios_to_rests(self):
        for modulus in (2, 3, 4, 6, 97, 1000000):
            for top, bottom in product((-7, 0, 1, 12, 10 ** 30), (1, 7, 11, 13 ** 20)):
                ratio = Ratio(top, bottom)
                found = led(ratio, f"rest {modulus}")
                self.same([found.modulus, found * ratio.bottom], [modulus, Rest(ratio.top, modulus)])

    def test_rests_to_rests(self):
        for number in range(12):
            for divisor in (2, 3, 4, 6, 12):
                self.tells(Rest(number, divisor), led, value=Rest(number, 12), kind=f"rest {divisor}")

    def test_numbers_to_polys(self):
        self.tells(Poly("ratio", (Ratio(1, 2),)), led, value=Ratio(1, 2), kind="poly ratio")
        self.tells(Poly("rest 5", (3,)), led, value=Ratio(1, 2), kind="poly rest 5")
        self.tells(Poly("rest 3", (2,)), led, value=Rest(5, 6), kind="poly rest 3")
        self.tells(Poly("rest 3", ()), led, value=Rest(3, 6), kind="poly rest 3")
        self.tells(Poly("whole", ()), led, value=0, kind="poly whole")

    def test_polys_to_polys(self):
        whole = Poly("whole", (1, -2, 3, 6))
        self.tells(Poly("ratio", (1, -2, 3, 6)), led, value=whole, kind="poly ratio")
        self.tells(Poly("rest 3", (1, 1)), led, value=whole, kind="poly rest 3")
        self.tells(Poly("rest 2", (1, 0, 1)), led, value=whole, kind="poly rest 2")
        self.tells(Poly("rest 5", (3, 0, 2)), led, value=Poly("ratio", (Ratio(1, 2), 0, Ratio(1, 3))), kind="poly rest 5")
        self.tells(Poly("rest 7", ()), led, value=Poly("ratio", (7, Ratio(14, 3))), kind="poly rest 7")

    def test_sums_and_products_stay_such(self):
        source = lot("leading")
        for kind, other in (("whole", "rest 12"), ("whole", "poly ratio"), ("ratio", "rest 97"), ("poly whole", "poly rest 3"),
                            ("rest 12", "rest 4"), ("whole", "ratio"), ("rest 12", "poly rest 3")):
            for _ in range(20):
                a, b = drawn_grid(kind, 2, 2, source), drawn_grid(kind, 2, 2, source)
                self.same(led(a * b + a, other), led(a, other) * led(b, other) + led(a, other))


class Bottoms(Told):
    def test_the_first_bottom_that_is_no_unit(self):
        half, third, quarter, fifth = Ratio(1, 2), Ratio(1, 3), Ratio(3, 4), Ratio(2, 5)
        told = (
            (half, "rest 2", 2), (quarter, "rest 2", 4), (quarter, "rest 6", 4), (third, "rest 6", 3), (half, "poly rest 2", 2),
            (Column((fifth, third, half)), "rest 6", 3), (Column((1, quarter, half)), "rest 2", 4),
            (Grid(((fifth, 1), (half, third))), "rest 6", 2), (Grid(((fifth, third), (half, 1))), "rest 6", 3),
            (Grid(((fifth, third), (quarter, half))), "rest 2", 4), (Poly("ratio", (1, third, Ratio(1, 9))), "poly rest 3", 3),
            (Grid(((Poly("ratio", (1, 2)), Poly("ratio", (0, fifth, half))), (Poly("ratio", (quarter,)), 0))), "poly rest 2", 2),
            (Column((fifth, half)), "poly rest 5", 5), (Ratio(0), "rest 2", None), (Ratio(10 ** 40, 3 ** 50), "rest 2", None),
            (Ratio(1, 3 ** 50), "rest 6", 3 ** 50), (Column((third, fifth)), "poly ratio", None), (half, "ratio", None),
        )
        for value, kind, bottom in told:
            if bottom is None:
                self.same(kind_of_value(led(value, kind)), kind)
            else:
                self.refuses(NotAUnit(bottom), led, value=value, kind=kind)

    def test_what_is_not_led_at_all_comes_ahead(self):
        self.refuses(NotLed("ratio", "whole"), led, value=Column((Ratio(1, 2),)), kind="whole")
        self.refuses(NotLed("ratio", "poly whole"), led, value=Ratio(1, 2), kind="poly whole")
        self.refuses(NotLed("poly ratio", "rest 2"), led, value=Poly("ratio", (Ratio(1, 2),)), kind="rest 2")


class Refusals(Told):
    def test_what_is_no_value_comes_ahead_of_what_is_no_kind(self):
        for value in NO_VALUES:
            self.refuses(NotANumber(value), led, value=value, kind="ratio")
            self.refuses(NotANumber(value), led, value=value, kind="no kind")
        for kind in [*NO_KINDS, *SPOILT]:
            for value in (1, Ratio(1), Rest(1, 6), Poly("whole", ()), Column((1,)), Grid(((Ratio(1, 2),),))):
                self.refuses(InvalidKind(kind), led, value=value, kind=kind)


class ToWhole(Told):
    def test_ratios(self):
        source = lot("to whole")
        for value in [drawn_column("ratio", size, source) for size in (1, 3, 8)] + [drawn_grid("ratio", 3, 4, source)]:
            numbers = value.entries if isinstance(value, Column) else [entry for row in value.rows for entry in row]
            times = lcm(*[number.bottom for number in numbers])
            found = to_whole(value)
            self.assertIs(type(found), tuple)
            self.same([found[0], found[1].kind, led(found[1], "ratio")], [times, "whole", value * times])
            self.tells(found, to_whole, value=value)
        self.tells((1, Grid(((0, 0),))), to_whole, value=nought_grid("ratio", 1, 2))
        self.tells((12, Column((6, -8, 3))), to_whole, value=Column((Ratio(1, 2), Ratio(-2, 3), Ratio(1, 4))))
        self.tells((1, Column((4,))), to_whole, value=Column((Ratio(4),)))
        self.tells((6, Grid(((3, 2), (6, 12)))), to_whole, value=Grid(((Ratio(1, 2), Ratio(1, 3)), (1, 2))))

    def test_whole_ones_and_rests(self):
        self.tells((1, Column((4, -6))), to_whole, value=Column((4, -6)))
        self.tells((1, Grid(((2, 4), (6, 0)))), to_whole, value=Grid(((2, 4), (6, 0))))
        self.tells((1, Column((5, 0, 2))), to_whole, value=Column((Rest(-1, 6), 6, 2)))
        self.tells((1, Grid(((1, 0), (0, 96)))), to_whole, value=Grid(((Rest(1, 97), 0), (0, -1))))

    def test_refusals(self):
        for value in [*NO_VALUES, 1, Ratio(1, 2), Rest(1, 2), Poly("whole", ())]:
            self.refuses(NotANumber(value), to_whole, value=value)
        for kind in ("poly whole", "poly ratio", "poly rest 3"):
            self.refuses(NotWhole(kind), to_whole, value=Column((nought(kind),)))
            self.refuses(NotWhole(kind), to_whole, value=nought_grid(kind, 2, 3))
