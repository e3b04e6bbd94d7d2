from gridwright.errors import InvalidKind, InvalidNumber, InvalidText, NotANumber, NotAUnit
from gridwright.kinds import (
    is_field, is_kind, is_unit, kind_of, nought, number_of, one, read_number, unit_inverse, written,
)
from gridwright.polys import Poly
from gridwright.ratios import Ratio
from gridwright.rests import Rest
from samples import COEFFICIENT_KINDS, NO_KINDS, OTHER_KINDS, numbers_of
from support import SPOILT, Told

KINDS = COEFFICIENT_KINDS + OTHER_KINDS
FIELDS = ("ratio", "rest 2", "rest 3", "rest 5", "rest 97", "rest 101", "rest 999983")
NO_TEXTS = [*SPOILT, 1, Ratio(1), Poly("whole", (1,))]


class Kinds(Told):
    def test_what_is_a_kind(self):
        for kind in KINDS:
            self.tells(True, is_kind, value=kind)
        for value in [*NO_KINDS, *NO_TEXTS]:
            self.tells(False, is_kind, value=value)
        for modulus in range(2, 300):
            self.same(is_kind(f"rest {modulus}"), True)
            prime = all(modulus % factor for factor in range(2, modulus))
            self.same(is_kind(f"poly rest {modulus}"), prime)
            self.same(is_field(f"rest {modulus}"), prime)
        self.same([is_kind("rest 2"), is_kind("rest 1000000"), is_kind("rest 1000001")], [True, True, False])
        self.same([is_kind("poly rest 999983"), is_kind("poly rest 999981")], [True, False])

    def test_what_is_a_field(self):
        for kind in FIELDS:
            self.tells(True, is_field, value=kind)
        for value in [*NO_KINDS, *NO_TEXTS, "whole", "rest 4", "rest 91", "rest 1000000", "rest 998001"]:
            self.tells(False, is_field, value=value)
        for value in ("poly whole", "poly ratio", "poly rest 3"):
            self.tells(False, is_field, value=value)

    def test_the_kind_of_a_number(self):
        for kind in KINDS:
            for number in numbers_of(kind):
                self.tells(kind, kind_of, number=number)
        for value in SPOILT:
            self.refuses(NotANumber(value), kind_of, number=value)


class NumbersOfKinds(Told):
    def test_whole_numbers_lead_to_each_kind(self):
        for whole in (-(10 ** 59), -1, 0, 1, 3, 10 ** 59):
            self.tells(whole, number_of, kind="whole", whole=whole)
            self.tells(Ratio(whole), number_of, kind="ratio", whole=whole)
            for modulus in (2, 3, 4, 6, 1000000):
                self.tells(Rest(whole, modulus), number_of, kind=f"rest {modulus}", whole=whole)
            for inner in COEFFICIENT_KINDS:
                self.tells(Poly(inner, (whole,)), number_of, kind=f"poly {inner}", whole=whole)

    def test_nought_and_one(self):
        for kind in KINDS:
            self.tells(number_of(kind, 0), nought, kind=kind)
            self.tells(number_of(kind, 1), one, kind=kind)
        self.same([nought("whole"), one("whole")], [0, 1])
        self.same([nought("poly rest 3"), one("poly rest 3")], [Poly("rest 3", ()), Poly("rest 3", (1,))])

    def test_what_is_no_kind_comes_ahead_of_what_is_no_whole_number(self):
        for kind in [*NO_KINDS, *NO_TEXTS]:
            self.refuses(InvalidKind(kind), nought, kind=kind)
            self.refuses(InvalidKind(kind), one, kind=kind)
            self.refuses(InvalidKind(kind), number_of, kind=kind, whole=1)
            self.refuses(InvalidKind(kind), number_of, kind=kind, whole=None)
        for value in [*SPOILT, Ratio(1), Rest(1, 3), Poly("whole", (1,))]:
            for kind in KINDS:
                self.refuses(InvalidNumber(value), number_of, kind=kind, whole=value)


class TextsOfNumbers(Told):
    def test_texts_both_ways(self):
        for kind in KINDS:
            for number in numbers_of(kind):
                text = written(number)
                self.tells(text, written, number=number)
                self.tells(number, read_number, kind=kind, text=text)

    def test_how_they_look(self):
        told = (
            (-12, "-12"), (0, "0"), (10 ** 40, "1" + "0" * 40), (Ratio(-3, 6), "-1/2"), (Ratio(0), "0/1"),
            (Rest(-1, 7), "6"), (Rest(0, 4), "0"), (Poly("whole", ()), "()"), (Poly("whole", (0, -1)), "(0,-1)"),
            (Poly("ratio", (Ratio(1, 2), 3)), "(1/2,3/1)"), (Poly("rest 5", (-1,)), "(4)"),
        )
        for number, text in told:
            self.tells(text, written, number=number)

    def test_what_is_no_text(self):
        texts = {
            "whole": ("", "-", "-0", "+1", "01", "-01", " 1", "1 ", "1.", "1/1", "(1)", "1_0", "0x1", "\u0662", "1\n"),
            "ratio": ("", "1", "2/4", "1/0", "1/-2", "0/2", "-0/1", "(1/1)"),
            "rest 7": ("", "7", "-1", "07", "10", "1/1", "+1", "00"),
            "rest 1000000": ("1000000", "-1"),
            "poly whole": ("", "0", "1", "(0)", "(1,0)", "(1", "1)", "(1,,1)", "( )", "poly whole: (1)"),
            "poly ratio": ("(1)", "(1/1,0/1)", "(2/2)"),
            "poly rest 3": ("(3)", "(0)", "(-1)", "(1,0)", "(1/1)"),
        }
        for kind, wrong in texts.items():
            for text in wrong:
                self.refuses(InvalidText(text), read_number, kind=kind, text=text)
        for kind in KINDS:
            for value in NO_TEXTS:
                if not isinstance(value, str) or value in ("", "x"):
                    self.refuses(InvalidText(value), read_number, kind=kind, text=value)

    def test_kinds_come_ahead_of_texts(self):
        for kind in [*NO_KINDS, *SPOILT, 1]:
            self.refuses(InvalidKind(kind), read_number, kind=kind, text="1")
            self.refuses(InvalidKind(kind), read_number, kind=kind, text=None)

    def test_what_is_no_number_has_no_text(self):
        for value in SPOILT:
            self.refuses(NotANumber(value), written, number=value)


class Units(Told):
    def test_units_have_an_inverse_and_others_none(self):
        for kind in KINDS:
            for number in numbers_of(kind):
                if is_unit(number):
                    self.tells(True, is_unit, number=number)
                    self.same([number * unit_inverse(number), kind_of(unit_inverse(number))], [one(kind), kind])
                    self.tells(unit_inverse(number), unit_inverse, number=number)
                else:
                    self.tells(False, is_unit, number=number)
                    self.refuses(NotAUnit(number), unit_inverse, number=number)

    def test_just_which_are_units(self):
        for whole in range(-5, 6):
            self.same(is_unit(whole), whole in (1, -1))
            self.same([is_unit(Ratio(whole, 7)), is_unit(Poly("ratio", (Ratio(whole, 7),)))], [whole != 0] * 2)
            self.same(is_unit(Poly("whole", (whole,))), whole in (1, -1))
            self.same(is_unit(Poly("whole", (whole, 1))), False)
            self.same(is_unit(Poly("ratio", (whole, 1))), False)
        for modulus in range(2, 20):
            for number in range(modulus):
                inverse = any(number * other % modulus == 1 for other in range(modulus))
                self.same(is_unit(Rest(number, modulus)), inverse)
        for number in range(5):
            self.same(is_unit(Poly("rest 5", (number,))), number > 0)
            self.same(is_unit(Poly("rest 5", (number, 2))), False)

    def test_inverses(self):
        self.tells(-1, unit_inverse, number=-1)
        self.tells(1, unit_inverse, number=1)
        self.tells(Ratio(-3, 2), unit_inverse, number=Ratio(-2, 3))
        self.tells(Rest(5, 6), unit_inverse, number=Rest(5, 6))
        self.tells(Poly("whole", (-1,)), unit_inverse, number=Poly("whole", (-1,)))
        self.tells(Poly("ratio", (Ratio(1, 2),)), unit_inverse, number=Poly("ratio", (2,)))
        self.tells(Poly("rest 7", (4,)), unit_inverse, number=Poly("rest 7", (2,)))

    def test_what_is_no_number(self):
        for value in SPOILT:
            self.refuses(NotANumber(value), is_unit, number=value)
            self.refuses(NotANumber(value), unit_inverse, number=value)
