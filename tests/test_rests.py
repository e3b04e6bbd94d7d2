from itertools import product
from math import gcd

from gridwright.errors import InvalidNumber, NotANumber, NotApart, NotAUnit, TooMany, Unlike
from gridwright.polys import Poly
from gridwright.ratios import Ratio
from gridwright.rests import Rest, joined, order_of
from support import SPOILT, Told

FAR = 10 ** 30
MODULI = (2, 3, 4, 6, 7, 12)
NO_WHOLE = [value for value in SPOILT] + [Ratio(1), Rest(1, 5), Poly("whole", (1,))]
NO_REST = [*SPOILT, 1, 0, Ratio(1), Poly("rest 5", (1,))]


def rests(moduli=MODULI):
    return [Rest(number, modulus) for modulus in moduli for number in range(modulus)]


class MakingRests(Told):
    def test_numbers_are_led_back(self):
        for modulus, number in product((2, 3, 10, 10 ** 6), (-(10 ** 40), -7, -1, 0, 1, 5, 999999, 10 ** 6, 10 ** 40 + 3)):
            rest = Rest(number, modulus)
            self.same([rest.number, rest.modulus], [number % modulus, modulus])
        self.tells(Rest(1, 7), Rest, number=8, modulus=7)
        self.same(Rest(modulus=7, number=8), Rest(1, 7))

    def test_the_number_first_and_then_the_modulus(self):
        for value in NO_WHOLE:
            self.refuses(InvalidNumber(value), Rest, number=value, modulus=5)
            self.refuses(InvalidNumber(value), Rest, number=value, modulus=1)
            self.refuses(InvalidNumber(value), Rest, number=1, modulus=value)

    def test_moduli_at_the_ends(self):
        self.same([Rest(3, 2).number, Rest(-1, 10 ** 6).number], [1, 999999])
        for modulus in (1, 0, -5, 10 ** 6 + 1, 10 ** 30):
            self.refuses(InvalidNumber(modulus), Rest, number=3, modulus=modulus)


class RestSigns(Told):
    def test_sums_differences_and_products(self):
        for one in rests():
            for number in range(-1, one.modulus + 1):
                m, other = one.modulus, Rest(number, one.modulus)
                self.same([one + other, one - other], [Rest(one.number + number, m), Rest(one.number - number, m)])
                self.same(one * other, Rest(one.number * number, m))
            self.same(-one, Rest(-one.number, one.modulus))

    def test_whole_numbers_on_either_side(self):
        for one, whole in product(rests(), (-13, -1, 0, 2, 10 ** 50)):
            n, m = one.number, one.modulus
            self.same([one + whole, whole + one], [Rest(n + whole, m)] * 2)
            self.same([one - whole, whole - one], [Rest(n - whole, m), Rest(whole - n, m)])
            self.same([one * whole, whole * one], [Rest(n * whole, m)] * 2)

    def test_two_moduli(self):
        one, other = Rest(1, 7), Rest(1, 14)
        for action in (lambda: one + other, lambda: one - other, lambda: one * other):
            self.raises(Unlike("rest 7", "rest 14"), action)
        for action in (lambda: other + one, lambda: other - one, lambda: other * one):
            self.raises(Unlike("rest 14", "rest 7"), action)

    def test_nothing_else_is_added(self):
        for value in (True, None, "1", Ratio(1), [1]):
            for action in (lambda: Rest(1, 5) + value, lambda: value + Rest(1, 5), lambda: Rest(1, 5) - value,
                           lambda: value - Rest(1, 5), lambda: Rest(1, 5) * value):
                with self.assertRaises(TypeError):
                    action()

    def test_what_is_given_stays(self):
        one, other = Rest(3, 7), Rest(5, 7)
        one + other, one - other, one * other, -one, one ** -4, one.inverse(), order_of(one), joined(one, Rest(1, 5))
        self.same([one.number, one.modulus, other.number, other.modulus], [3, 7, 5, 7])


class RestPowers(Told):
    def test_powers_are_products(self):
        for rest, exponent in product(rests(), range(0, 6)):
            value = Rest(rest.number ** exponent, rest.modulus)
            self.tells(value, rest.power, exponent=exponent)
            self.same(rest ** exponent, value)
            if rest.is_unit:
                self.same(rest ** -exponent * value, Rest(1, rest.modulus))

    def test_the_exponents_at_the_ends(self):
        for number, modulus in ((3, 10 ** 6), (2, 999983), (4, 6), (0, 2)):
            self.same(Rest(number, modulus) ** FAR, Rest(pow(number, FAR, modulus), modulus))
        for number, modulus in ((3, 10 ** 6), (2, 999983), (1, 2)):
            self.same(Rest(number, modulus) ** -FAR, Rest(pow(number, -FAR, modulus), modulus))
        self.same([Rest(0, 4) ** 0, Rest(2, 4) ** 0, Rest(1, 2) ** 0], [Rest(1, 4), Rest(1, 4), Rest(1, 2)])

    def test_exponents_that_are_none(self):
        for value in [*NO_WHOLE, FAR + 1, -FAR - 1]:
            for rest in (Rest(3, 7), Rest(2, 4)):
                self.refuses(InvalidNumber(value), rest.power, exponent=value)
                self.raises(InvalidNumber(value), lambda: rest ** value)

    def test_only_units_have_powers_below_nought(self):
        for rest in rests():
            if not rest.is_unit:
                self.refuses(NotAUnit(rest), rest.power, exponent=-1)
                self.raises(NotAUnit(rest), lambda: rest ** -FAR)
                self.raises(InvalidNumber(-FAR - 1), lambda: rest ** (-FAR - 1))


class RestAnswers(Told):
    def test_units_and_inverses(self):
        for rest in rests(range(2, 31)):
            inverses = [k for k in range(rest.modulus) if rest.number * k % rest.modulus == 1]
            self.same(rest.is_unit, bool(inverses))
            self.same(rest.is_unit, gcd(rest.number, rest.modulus) == 1)
            if inverses:
                self.same(rest.inverse(), Rest(inverses[0], rest.modulus))
            else:
                self.raises(NotAUnit(rest), rest.inverse)
        self.same(Rest(999999, 10 ** 6).inverse(), Rest(999999, 10 ** 6))

    def test_orders(self):
        for rest in rests(range(2, 41)):
            if rest.is_unit:
                order, power = 1, rest
                while power != Rest(1, rest.modulus):
                    order, power = order + 1, power * rest
                self.tells(order, order_of, number=rest)
            else:
                self.refuses(NotAUnit(rest), order_of, number=rest)
        self.tells(1, order_of, number=Rest(1, 2))
        self.tells(999982, order_of, number=Rest(5, 999983))
        self.tells(50000, order_of, number=Rest(3, 10 ** 6))

    def test_order_of_no_rest(self):
        for value in NO_REST:
            self.refuses(NotANumber(value), order_of, number=value)

    def test_joined(self):
        for m, n in product(range(2, 9), range(2, 9)):
            for a, b in product(range(m), range(n)):
                if gcd(m, n) == 1:
                    fits = [k for k in range(m * n) if k % m == a and k % n == b]
                    self.tells(Rest(fits[0], m * n), joined, one=Rest(a, m), other=Rest(b, n))
                else:
                    self.refuses(NotApart(gcd(m, n)), joined, one=Rest(a, m), other=Rest(b, n))

    def test_joined_at_the_greatest_modulus(self):
        self.tells(Rest(999999, 10 ** 6), joined, one=Rest(-1, 64), other=Rest(-1, 15625))
        self.refuses(TooMany(1000001), joined, one=Rest(1, 101), other=Rest(1, 9901))
        self.refuses(TooMany(999999 * 10 ** 6), joined, one=Rest(1, 10 ** 6), other=Rest(1, 999999))
        self.refuses(NotApart(500000), joined, one=Rest(1, 10 ** 6), other=Rest(1, 500000))

    def test_joined_of_no_rests(self):
        for value in NO_REST:
            self.refuses(NotANumber(value), joined, one=value, other=Rest(1, 2))
            self.refuses(NotANumber(value), joined, one=Rest(1, 2), other=value)
            self.refuses(NotANumber(value), joined, one=value, other=None)


class RestEquality(Told):
    def test_equal_exactly_if_number_and_modulus_are(self):
        for one, other in product(rests(), rests()):
            alike = (one.number, one.modulus) == (other.number, other.modulus)
            self.same([one == other, one != other], [alike, not alike])

    def test_never_to_values_of_another_class(self):
        for value in [1, True, None, "1", (1, 5), Ratio(1), Poly("rest 5", (1,)), object(), Rest]:
            self.same([Rest(1, 5) == value, value == Rest(1, 5)], [False] * 2)
            self.same([Rest(1, 5) != value, value != Rest(1, 5)], [True] * 2)

    def test_true_exactly_if_not_nought(self):
        for rest in rests():
            self.same(bool(rest), rest.number != 0)

    def test_the_text_is_the_figures_of_the_number(self):
        for rest in rests():
            self.same(rest.text, str(rest.number))
        self.same(Rest(-1, 10 ** 6).text, "999999")
