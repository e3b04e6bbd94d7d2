from fractions import Fraction
from itertools import product
from math import gcd

from gridwright.errors import InvalidNumber, InvalidText, NotANumber, NotAUnit
from gridwright.polys import Poly
from gridwright.ratios import Ratio, square_root
from gridwright.rests import Rest
from support import SPOILT, Told

FAR = 10 ** 59 + 7
PAIRS = [(top, bottom) for top, bottom in product(range(-6, 7), range(-4, 5)) if bottom != 0] + [(FAR, -6), (-4, FAR)]
NO_WHOLE = [value for value in SPOILT] + [Ratio(1), Rest(1, 5), Poly("whole", (1,)), (1, 2), range(3)]


def fraction(ratio):
    return Fraction(ratio.top, ratio.bottom)


class MakingRatios(Told):
    def test_lowest_terms_with_a_bottom_above_nought(self):
        for top, bottom in PAIRS:
            ratio = Ratio(top, bottom)
            self.assertEqual(fraction(ratio), Fraction(top, bottom))
            self.assertGreater(ratio.bottom, 0)
            self.assertEqual(gcd(ratio.top, ratio.bottom), 1)
            self.assertIs(type(ratio.top), int)
            self.assertIs(type(ratio.bottom), int)

    def test_bottoms_below_nought_and_the_bottom_that_is_left_out(self):
        self.same([Ratio(3, -6).top, Ratio(3, -6).bottom], [-1, 2])
        self.same([Ratio(-3, -6).top, Ratio(-3, -6).bottom], [1, 2])
        self.same([Ratio(0, -6).top, Ratio(0, -6).bottom], [0, 1])
        self.same([Ratio(7).top, Ratio(7).bottom], [7, 1])
        self.tells(Ratio(1, 2), Ratio, top=2, bottom=4)
        self.same(Ratio(bottom=4, top=2), Ratio(1, 2))

    def test_the_first_one_that_is_no_whole_number(self):
        for value in NO_WHOLE:
            self.refuses(InvalidNumber(value), Ratio, top=value)
            self.refuses(InvalidNumber(value), Ratio, top=value, bottom=1)
            self.refuses(InvalidNumber(value), Ratio, top=1, bottom=value)
            self.refuses(InvalidNumber(value), Ratio, top=value, bottom=0)
            self.refuses(InvalidNumber(value), Ratio, top=value, bottom=[2])
        self.refuses(InvalidNumber(0), Ratio, top=1, bottom=0)
        self.refuses(InvalidNumber(0), Ratio, top=0, bottom=0)

    def test_is_whole(self):
        self.same([Ratio(4, 2).is_whole, Ratio(-3).is_whole, Ratio(0, 5).is_whole], [True] * 3)
        self.same([Ratio(1, 2).is_whole, Ratio(-7, 3).is_whole], [False] * 2)


class RatioSigns(Told):
    def test_sums_differences_and_products(self):
        for (a, b), (c, d) in product(PAIRS, PAIRS[::5]):
            one, other = Ratio(a, b), Ratio(c, d)
            found = (one + other, one - other, one * other)
            wanted = (Fraction(a, b) + Fraction(c, d), Fraction(a, b) - Fraction(c, d), Fraction(a, b) * Fraction(c, d))
            for ratio, value in zip(found, wanted):
                self.assertIs(type(ratio), Ratio)
                self.assertEqual((ratio.top, ratio.bottom), (value.numerator, value.denominator))

    def test_whole_numbers_on_either_side(self):
        for (a, b), whole in product(PAIRS, (-3, 0, 1, 4, FAR)):
            one, value = Ratio(a, b), Fraction(a, b)
            for ratio, wanted in (
                (one + whole, value + whole), (whole + one, value + whole), (one - whole, value - whole),
                (whole - one, whole - value), (one * whole, value * whole), (whole * one, value * whole),
            ):
                self.same(ratio, Ratio(wanted.numerator, wanted.denominator))

    def test_opposites_and_sizes(self):
        for top, bottom in PAIRS:
            self.assertEqual(fraction(-Ratio(top, bottom)), -Fraction(top, bottom))
            self.assertEqual(fraction(abs(Ratio(top, bottom))), abs(Fraction(top, bottom)))
            self.assertIs(type(abs(Ratio(top, bottom))), Ratio)

    def test_nothing_else_is_added(self):
        for value in (True, None, "1", Rest(1, 5), [1]):
            for action in (lambda: Ratio(1) + value, lambda: value + Ratio(1), lambda: Ratio(1) - value,
                           lambda: value - Ratio(1), lambda: Ratio(1) * value):
                with self.assertRaises(TypeError):
                    action()

    def test_what_is_given_stays(self):
        one, other = Ratio(1, 2), Ratio(-3, 4)
        one + other, one - other, one * other, -one, abs(other), one ** -3, one.inverse(), one.floor(), one.is_below(other)
        self.same([one.text, other.text], ["1/2", "-3/4"])


class RatioPowers(Told):
    def test_powers_are_products(self):
        for (top, bottom), exponent in product(PAIRS[::3], range(-5, 6)):
            ratio = Ratio(top, bottom)
            if ratio or exponent >= 0:
                value = Fraction(top, bottom) ** exponent
                self.tells(Ratio(value.numerator, value.denominator), ratio.power, exponent=exponent)
                self.same(ratio ** exponent, ratio.power(exponent))

    def test_the_exponents_at_the_ends(self):
        self.same(Ratio(-2, 3) ** 64, Ratio(2 ** 64, 3 ** 64))
        self.same(Ratio(-2, 3) ** -64, Ratio(3 ** 64, 2 ** 64))
        self.same(Ratio(-2, 3) ** 63, Ratio(-(2 ** 63), 3 ** 63))
        self.same([Ratio(0) ** 0, Ratio(5, 7) ** 0, Ratio(0) ** 64], [Ratio(1), Ratio(1), Ratio(0)])

    def test_exponents_that_are_none(self):
        for value in [*NO_WHOLE, 65, -65, 10 ** 30, Ratio(2)]:
            for ratio in (Ratio(2, 3), Ratio(0)):
                self.refuses(InvalidNumber(value), ratio.power, exponent=value)
                self.raises(InvalidNumber(value), lambda: ratio ** value)

    def test_nought_has_no_powers_below_nought(self):
        self.refuses(NotAUnit(Ratio(0)), Ratio(0).power, exponent=-1)
        self.raises(NotAUnit(Ratio(0)), lambda: Ratio(0) ** -64)
        # The exponent comes first: the other error is told with "last".
        self.raises(InvalidNumber(-65), lambda: Ratio(0) ** -65)


class RatioAnswers(Told):
    def test_inverses(self):
        for top, bottom in PAIRS:
            if top:
                self.same(Ratio(top, bottom).inverse(), Ratio(bottom, top))
                self.same(Ratio(top, bottom).inverse() * Ratio(top, bottom), Ratio(1))
        self.raises(NotAUnit(Ratio(0)), lambda: Ratio(0, 3).inverse())

    def test_floors(self):
        for top, bottom in PAIRS:
            floor = Ratio(top, bottom).floor()
            self.assertIs(type(floor), int)
            self.assertTrue(floor <= Fraction(top, bottom) < floor + 1)

    def test_is_below(self):
        for (a, b), (c, d) in product(PAIRS, PAIRS[::4]):
            self.tells(Fraction(a, b) < Fraction(c, d), Ratio(a, b).is_below, other=Ratio(c, d))
        for (a, b), whole in product(PAIRS, (-2, 0, 3)):
            self.tells(Fraction(a, b) < whole, Ratio(a, b).is_below, other=whole)

    def test_is_below_of_anything_else(self):
        for value in (value for value in NO_WHOLE if not isinstance(value, Ratio)):
            self.refuses(InvalidNumber(value), Ratio(1, 2).is_below, other=value)

    def test_square_roots(self):
        for top, bottom in product(range(0, 12), range(1, 12)):
            self.tells(Ratio(top, bottom), square_root, number=Ratio(top * top, bottom * bottom))
        squares = {Fraction(a, b) ** 2 for a, b in product(range(20), range(1, 20))}
        for top, bottom in product(range(-9, 10), range(1, 10)):
            if Fraction(top, bottom) not in squares:
                self.tells(None, square_root, number=Ratio(top, bottom))
        self.tells(Ratio(FAR ** 3, 2), square_root, number=Ratio(FAR ** 6, 4))
        self.tells(None, square_root, number=Ratio(FAR ** 6 - 1, 4))
        self.tells(None, square_root, number=Ratio(-4))

    def test_square_root_of_no_ratio(self):
        for value in [value for value in NO_WHOLE if not isinstance(value, Ratio)] + [4, 0, -1]:
            self.refuses(NotANumber(value), square_root, number=value)


class RatioEquality(Told):
    def test_equal_exactly_if_top_and_bottom_are(self):
        for (a, b), (c, d) in product(PAIRS, PAIRS):
            alike = Fraction(a, b) == Fraction(c, d)
            self.same(Ratio(a, b) == Ratio(c, d), alike)
            self.same(Ratio(a, b) != Ratio(c, d), not alike)

    def test_never_to_values_of_another_class(self):
        others = [2, True, None, "2/1", (2, 1), [2, 1], {}, Rest(2, 5), Poly("ratio", (2,)), Fraction(2), object(), Ratio]
        for value in others:
            self.same([Ratio(2, 1) == value, value == Ratio(2, 1)], [False] * 2)
            self.same([Ratio(2, 1) != value, value != Ratio(2, 1)], [True] * 2)

    def test_true_exactly_if_not_nought(self):
        self.same([bool(Ratio(0)), bool(Ratio(0, -5))], [False] * 2)
        self.same([bool(Ratio(1, 9)), bool(Ratio(-1))], [True] * 2)


class RatioTexts(Told):
    def test_texts_both_ways(self):
        for top, bottom in PAIRS:
            ratio = Ratio(top, bottom)
            self.same(ratio.text, f"{ratio.top}/{ratio.bottom}")
            self.tells(ratio, Ratio.read, text=ratio.text)

    def test_what_is_no_text(self):
        texts = ("", "/", "1", "1/", "/1", "0/2", "2/4", "1/0", "0/0", "1/-2", "-0/1", "+1/2", "1/+2", "01/2", "1/02",
                 " 1/2", "1/2 ", "1 /2", "1/2/3", "1//2", "--1/2", "1_0/3", "a/b", "1/2\n", "\u0661/2", "1.0/2")
        for text in texts:
            self.refuses(InvalidText(text), Ratio.read, text=text)
        for value in [value for value in NO_WHOLE if not isinstance(value, str)] + [1, Ratio(1, 2), b"1/2", ["1/2"]]:
            self.refuses(InvalidText(value), Ratio.read, text=value)

    def test_read_is_called_off_the_class_and_off_objects(self):
        self.same(Ratio(1).read("3/4"), Ratio(3, 4))

    def test_long_texts(self):
        ratio = Ratio(10 ** 1999 + 1, 10 ** 1998)
        self.same(Ratio.read(ratio.text), ratio)
