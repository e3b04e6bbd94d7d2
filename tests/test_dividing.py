from itertools import product

from gridwright.dividing import (
    are_clear, bare, bezout, common, content, divided, inverse_by, least_multiple, power_by, powers, primitive,
)
from gridwright.errors import InvalidNumber, NotAField, NotAPoly, NotAUnit, NotWhole, Nought, Unlike
from gridwright.polys import Poly
from gridwright.ratios import Ratio
from gridwright.rests import Rest
from samples import is_part, monic_by, monic_singles, polys_by, ratio_polys, total_product, whole_polys
from support import SPOILT, Told

NO_POLYS = [*SPOILT, 1, Ratio(1), Rest(1, 5), "poly whole: (1)"]
WHOLE, RATIO, REST2, REST3 = [Poly(kind, (1, 1)) for kind in ("whole", "ratio", "rest 2", "rest 3")]
LISTS = (polys_by(2, 4), polys_by(3, 3), ratio_polys()[::2])
OVER_FIELDS = (common, bezout, least_multiple, are_clear)


def ratios(*numbers):
    return Poly("ratio", numbers)


class Divided(Told):
    def test_there_is_just_one_pair_over_a_field(self):
        for polys in LISTS:
            for one, other in product(polys, polys):
                if other:
                    quotient, rest = divided(one, other)
                    self.same(quotient * other + rest, one)
                    self.assertLess(rest.degree, other.degree)
                    self.tells((one // other, one % other), divided, poly=one, other=other)

    def test_whole_polys_by_a_lead_that_is_a_unit(self):
        for one, other in product(whole_polys(), whole_polys()):
            if other and other.lead in (1, -1):
                quotient, rest = divided(one, other)
                self.same(quotient * other + rest, one)
                self.assertLess(rest.degree, other.degree)
            elif other:
                self.refuses(NotAUnit(other.lead), divided, poly=one, other=other)

    def test_the_edges(self):
        self.tells((ratios(2), ratios(-1)), divided, poly=ratios(1, 2), other=ratios(1, 1))
        self.tells((ratios(), ratios(1, 2)), divided, poly=ratios(1, 2), other=ratios(0, 0, 3))
        self.tells((ratios(Ratio(1, 3), 2), ratios()), divided, poly=ratios(1, 6), other=ratios(3))
        self.tells((ratios(), ratios()), divided, poly=ratios(), other=ratios(3))

    def test_errors_in_their_order(self):
        for value in NO_POLYS:
            self.refuses(NotAPoly(value), divided, poly=value, other=RATIO)
            self.refuses(NotAPoly(value), divided, poly=value, other=None)
            self.refuses(NotAPoly(value), divided, poly=RATIO, other=value)
        self.refuses(Unlike("ratio", "whole"), divided, poly=RATIO, other=Poly("whole", ()))
        self.refuses(Unlike("whole", "rest 2"), divided, poly=WHOLE, other=REST2)
        self.refuses(Nought(), divided, poly=WHOLE, other=Poly("whole", ()))
        self.refuses(Nought(), divided, poly=ratios(), other=ratios())
        self.refuses(NotAUnit(3), divided, poly=Poly("whole", ()), other=Poly("whole", (1, 3)))


class CommonParts(Told):
    def test_all_common_parts_are_parts_of_it(self):
        for prime, most in ((2, 3), (3, 2)):
            monic = monic_by(prime, most)
            for one, other in product(polys_by(prime, most + 1), repeat=2):
                shared = common(one, other)
                if not one and not other:
                    self.same(shared, one)
                    continue
                parts = [part for part in monic if is_part(part, one) and is_part(part, other)]
                self.assertIn(shared, parts)
                self.assertTrue(all(is_part(part, shared) for part in parts))
                self.same(are_clear(one, other), parts == [shared] and shared.degree == 0)

    def test_over_ratios(self):
        parts = [ratios(-1, 1), ratios(2, 1), ratios(Ratio(1, 2), 0, 1), ratios(3, 1)]
        for times in product((0, 1, 2), repeat=3):
            one = total_product([part ** k for part, k in zip(parts, times)], "ratio") * 6
            other = total_product([parts[0], parts[1] ** 2, parts[3]], "ratio") * Ratio(-5, 7)
            wanted = parts[0] ** min(times[0], 1) * parts[1] ** times[1]
            self.tells(wanted, common, poly=one, other=other)
            self.tells(wanted, common, poly=other, other=one)

    def test_noughts_and_numbers(self):
        for kind in ("ratio", "rest 3"):
            nought, unit, other = Poly(kind, ()), Poly(kind, (1,)), Poly(kind, (1, 2))
            self.tells(nought, common, poly=nought, other=nought)
            self.tells(other.monic(), common, poly=nought, other=other)
            self.tells(other.monic(), common, poly=other, other=nought)
            self.tells(unit, common, poly=Poly(kind, (2,)), other=other)
            self.tells(unit, common, poly=Poly(kind, (2,)), other=nought)
            self.tells(False, are_clear, poly=nought, other=nought)
            self.tells(False, are_clear, poly=nought, other=other)
            self.tells(True, are_clear, poly=nought, other=Poly(kind, (2,)))
            self.tells(True, are_clear, poly=Poly(kind, (2,)), other=Poly(kind, (2,)))
            self.tells(False, are_clear, poly=other, other=other * 2)

    def test_long_ones_over_ratios(self):
        one = total_product([ratios(Ratio(k, k + 1), k, 1) for k in range(1, 9)], "ratio")
        other = total_product([ratios(Ratio(k, k + 1), k, 1) for k in range(5, 13)], "ratio")
        shared = total_product([ratios(Ratio(k, k + 1), k, 1) for k in range(5, 9)], "ratio")
        self.same(common(one, other), shared)
        found, times, others = bezout(one, other)
        self.same([found, times * one + others * other], [shared] * 2)

    def test_bezout(self):
        for polys in LISTS:
            for one, other in product(polys, polys):
                shared, times, others = bezout(one, other)
                self.same([shared, times * one + others * other], [common(one, other)] * 2)
                if one or other:
                    self.assertLess(times.degree, max(other.degree - shared.degree, 1))
                    self.assertLess(others.degree, max(one.degree - shared.degree, 1))
                else:
                    self.same([times, others], [one, one])
        self.tells((ratios(),) * 3, bezout, poly=ratios(), other=ratios())
        self.tells((ratios(0, 1), ratios(), ratios(Ratio(1, 2))), bezout, poly=ratios(), other=ratios(0, 2))
        self.tells((ratios(0, 1), ratios(Ratio(1, 2)), ratios()), bezout, poly=ratios(0, 2), other=ratios())

    def test_least_multiples(self):
        for prime, most in ((2, 3), (3, 2)):
            polys = polys_by(prime, most + 1)
            for one, other in product(polys[::2], polys):
                least = least_multiple(one, other)
                if one and other:
                    self.same([least % one, least % other], [Poly(one.kind, ())] * 2)
                    self.same([least.lead, least], [Rest(1, prime), (one * other // common(one, other)).monic()])
                else:
                    self.same(least, Poly(one.kind, ()))
        self.tells(ratios(), least_multiple, poly=ratios(), other=ratios(1, 1))
        self.tells(ratios(1), least_multiple, poly=ratios(5), other=ratios(7))
        self.tells(ratios(-1, 0, 1), least_multiple, poly=ratios(2, 2), other=ratios(-3, 3))

    def test_errors_in_their_order(self):
        for call in OVER_FIELDS:
            for value in NO_POLYS:
                self.refuses(NotAPoly(value), call, poly=value, other=None)
                self.refuses(NotAPoly(value), call, poly=value, other=RATIO)
                self.refuses(NotAPoly(value), call, poly=WHOLE, other=value)
            self.refuses(NotAField("whole"), call, poly=WHOLE, other=WHOLE)
            self.refuses(NotAField("whole"), call, poly=WHOLE, other=RATIO)
            self.refuses(NotAField("whole"), call, poly=RATIO, other=WHOLE)
            self.refuses(Unlike("ratio", "rest 2"), call, poly=RATIO, other=REST2)
            self.refuses(Unlike("rest 3", "rest 2"), call, poly=REST3, other=Poly("rest 2", ()))


class ByAPoly(Told):
    def test_inverses(self):
        for prime, most in ((2, 3), (3, 2)):
            for poly, modulus in product(polys_by(prime, most + 1), repeat=2):
                if not modulus:
                    continue
                inverse = inverse_by(poly, modulus)
                self.same(inverse is not None, are_clear(poly, modulus))
                if inverse is not None:
                    self.assertLess(inverse.degree, max(modulus.degree, 0))
                    self.same((poly * inverse - 1) % modulus, Poly(poly.kind, ()))
        self.tells(ratios(Ratio(-1, 2), Ratio(1, 2)), inverse_by, poly=ratios(1, 1), modulus=ratios(-3, 0, 1))
        self.tells(None, inverse_by, poly=ratios(), modulus=ratios(0, 1))

    def test_inverses_by_a_number_are_nought(self):
        for poly in (ratios(), ratios(4), ratios(1, 2)):
            self.tells(ratios(), inverse_by, poly=poly, modulus=ratios(3))

    def test_powers(self):
        for prime in (2, 3):
            for poly, modulus in product(polys_by(prime, 3)[::2], polys_by(prime, 4)[1::3]):
                power = Poly(poly.kind, (1,)) % modulus
                for exponent in range(6):
                    self.tells(power, power_by, poly=poly, exponent=exponent, modulus=modulus)
                    power = power * poly % modulus

    def test_exponents_at_the_ends(self):
        x = Poly("rest 5", (0, 1))
        self.tells(Poly("rest 5", (1,)), power_by, poly=x, exponent=10 ** 30, modulus=Poly("rest 5", (-1, 0, 1)))
        # By x ** 2 + x + 1 the third power of x leaves 1, and 10 ** 30 leaves 1 by 3.
        self.tells(x, power_by, poly=x, exponent=10 ** 30, modulus=Poly("rest 5", (1, 1, 1)))
        self.tells(ratios(1), power_by, poly=ratios(), exponent=0, modulus=ratios(0, 1))
        self.tells(ratios(), power_by, poly=ratios(1, 1), exponent=0, modulus=ratios(7))
        self.tells(ratios(), power_by, poly=ratios(), exponent=10 ** 30, modulus=ratios(0, 1))

    def test_errors_in_their_order(self):
        nought = Poly("whole", ())
        for value in NO_POLYS:
            self.refuses(NotAPoly(value), inverse_by, poly=value, modulus=None)
            self.refuses(NotAPoly(value), inverse_by, poly=WHOLE, modulus=value)
            self.refuses(NotAPoly(value), power_by, poly=value, exponent=-1, modulus=None)
            self.refuses(NotAPoly(value), power_by, poly=WHOLE, exponent=1, modulus=value)
        for value in [*SPOILT, -1, 10 ** 30 + 1, Ratio(1), RATIO]:
            self.refuses(InvalidNumber(value), power_by, poly=WHOLE, exponent=value, modulus=None)
            self.refuses(InvalidNumber(value), power_by, poly=RATIO, exponent=value, modulus=RATIO)
        for named in ({}, {"exponent": 2}):
            call = power_by if named else inverse_by
            self.refuses(NotAField("whole"), call, poly=RATIO, **named, modulus=nought)
            self.refuses(NotAField("whole"), call, poly=nought, **named, modulus=ratios())
            self.refuses(Unlike("ratio", "rest 2"), call, poly=RATIO, **named, modulus=Poly("rest 2", ()))
            self.refuses(Nought(), call, poly=RATIO, **named, modulus=ratios())
            self.refuses(Nought(), call, poly=ratios(), **named, modulus=ratios())


class WholePolys(Told):
    def test_contents(self):
        told = (((), 0), ((6,), 6), ((-6,), 6), ((4, 0, 6), 2), ((-4, -6), 2), ((3, 5), 1), ((0, -9, 6), 3))
        for numbers, divisor in told:
            self.tells(divisor, content, poly=Poly("whole", numbers))
        self.tells(10 ** 40, content, poly=Poly("whole", (10 ** 41, 7 * 10 ** 40)))

    def test_primitive_ones(self):
        told = (((6,), (1,)), ((-6,), (1,)), ((4, 0, 6), (2, 0, 3)), ((4, -6), (-2, 3)), ((-4, -6), (2, 3)),
                ((3, 5), (3, 5)), ((3, -5), (-3, 5)))
        for numbers, others in told:
            self.tells(Poly("whole", others), primitive, poly=Poly("whole", numbers))

    def test_errors_in_their_order(self):
        for call in (content, primitive):
            for value in NO_POLYS:
                self.refuses(NotAPoly(value), call, poly=value)
            self.refuses(NotWhole("ratio"), call, poly=RATIO)
            self.refuses(NotWhole("ratio"), call, poly=ratios())
            self.refuses(NotWhole("rest 2"), call, poly=REST2)
        self.refuses(Nought(), primitive, poly=Poly("whole", ()))


class PowersOfParts(Told):
    def check(self, poly, parts):
        """The parts: pairs of unlike monic singles and how often they are parts."""
        by_power = {}
        for single, many in parts:
            by_power.setdefault(many, []).append(single)
        wanted = tuple((total_product(by_power[many], poly.kind), many) for many in sorted(by_power))
        self.tells(wanted, powers, poly=poly)
        self.tells(total_product([single for single, _ in parts], poly.kind), bare, poly=poly)

    def test_by_all_singles(self):
        for prime, most in ((2, 5), (3, 3)):
            singles = monic_singles(prime, most)
            for poly in polys_by(prime, most + 1):
                if poly:
                    self.check(poly, [(one, many) for one in singles if (many := self.times(one, poly))])

    def times(self, single, poly):
        many = 0
        while not poly % single:
            poly, many = poly // single, many + 1
        return many

    def test_high_powers_by_primes(self):
        for prime, exponents in ((2, (1, 2, 3, 4, 6, 8, 12)), (3, (1, 2, 3, 4, 6, 9)), (5, (1, 5, 6, 10))):
            one, other = [Poly(f"rest {prime}", numbers) for numbers in ((0, 1), (1, 1))]
            for first, second in product(exponents, exponents):
                self.check(one ** first * other ** second * (prime - 1), [(one, first), (other, second)])

    def test_over_ratios(self):
        singles = (ratios(0, 1), ratios(Ratio(-1, 2), 1), ratios(1, 0, 1))
        for exponents in product((0, 1, 2, 3), repeat=3):
            poly = total_product([one ** many for one, many in zip(singles, exponents)], "ratio") * Ratio(-3, 4)
            self.check(poly, [(one, many) for one, many in zip(singles, exponents) if many])

    def test_numbers_have_no_parts(self):
        for poly in (ratios(5), Poly("rest 2", (1,)), Poly("rest 5", (3,))):
            self.tells((), powers, poly=poly)
            self.tells(Poly(poly.kind, (1,)), bare, poly=poly)

    def test_errors_in_their_order(self):
        for call in (powers, bare):
            for value in NO_POLYS:
                self.refuses(NotAPoly(value), call, poly=value)
            self.refuses(NotAField("whole"), call, poly=WHOLE)
            self.refuses(NotAField("whole"), call, poly=Poly("whole", ()))
            self.refuses(Nought(), call, poly=ratios())
            self.refuses(Nought(), call, poly=Poly("rest 3", ()))


class GivenPolysStay(Told):
    def test_all_functions(self):
        one, other = ratios(1, 2, 1), ratios(Ratio(1, 2), 1)
        whole = Poly("whole", (-4, -6))
        for call in (divided, *OVER_FIELDS, inverse_by):
            call(one, other)
        power_by(one, 5, other), powers(one), bare(one), content(whole), primitive(whole)
        self.same([one.text, other.text], ["poly ratio: (1/1,2/1,1/1)", "poly ratio: (1/2,1/1)"])
        self.same(whole.text, "poly whole: (-4,-6)")
