"""Polys divided with rest, their common parts, and what follows from these."""

from math import gcd

from gridwright.checks import (
    check_alike_kinds, check_between, check_fields, check_not_nought, check_poly, check_wholes,
)
from gridwright.limits import MOST_FAR
from gridwright.polys import Poly, quotient_and_rest
from gridwright.scalars import modulus_of, scalar_inverse


def _check_pair(poly, other):
    """That these are two polys over one field."""
    check_poly(poly)
    check_poly(other)
    check_fields((poly, other))
    check_alike_kinds((poly, other))


def divided(poly, other):
    """The pair of quotient and rest."""
    check_poly(poly)
    check_poly(other)
    return quotient_and_rest(poly, other)


def common(poly, other):
    """The monic common part of two polys over a field, nought if both are."""
    _check_pair(poly, other)
    upper, lower = poly, other
    while lower:
        # Monic rests keep the coefficients of ratios short.
        upper, lower = lower, upper % lower
        lower = lower.monic() if lower else lower
    return upper.monic() if upper else upper


def bezout(poly, other):
    """The common part G of two polys over a field, with polys U, V for which U * poly + V * other is G."""
    _check_pair(poly, other)
    nothing, unit = Poly(poly.kind, ()), Poly(poly.kind, (1,))
    if not poly and not other:
        return nothing, nothing, nothing
    upper, lower = (poly, unit, nothing), (other, nothing, unit)
    while lower[0]:
        quotient = upper[0] // lower[0]
        upper, lower = lower, _made_monic(tuple([upper[k] - quotient * lower[k] for k in range(3)]))
    return _made_monic(upper)


def _made_monic(triple):
    """A poly and its two multiples, each divided by the poly's lead; as they are if it is nought."""
    if not triple[0]:
        return triple
    inverse = scalar_inverse(triple[0].lead)
    return tuple([part * inverse for part in triple])


def least_multiple(poly, other):
    """The monic least common multiple of two polys over a field, nought if one of both is."""
    shared = common(poly, other)
    if not poly or not other:
        return Poly(poly.kind, ())
    return (poly // shared * other).monic()


def are_clear(poly, other):
    """Whether only numbers are parts of both polys, over a field."""
    return common(poly, other).degree == 0


def inverse_by(poly, modulus):
    """The poly of a degree below the modulus's with which a poly leaves 1 by it; None if they are not clear."""
    _check_pair(poly, modulus)
    check_not_nought((modulus,))
    shared, times, _ = bezout(poly, modulus)
    return times % modulus if shared.degree == 0 else None


def power_by(poly, exponent, modulus):
    """The rest of a poly's power by another poly, over a field."""
    check_poly(poly)
    check_between(exponent, 0, MOST_FAR)
    _check_pair(poly, modulus)
    check_not_nought((modulus,))
    total, square, left = Poly(poly.kind, (1,)) % modulus, poly % modulus, exponent
    while left > 0:
        if left % 2 == 1:
            total = total * square % modulus
        left = left // 2
        if left > 0:
            square = square * square % modulus
    return total


def content(poly):
    """The greatest number that divides all coefficients of a whole poly, 0 for nought."""
    check_poly(poly)
    check_wholes((poly,))
    shared = 0
    for number in poly.coefficients:
        shared = gcd(shared, number)
    return shared


def primitive(poly):
    """A whole poly divided by its content, with a lead above 0."""
    check_poly(poly)
    check_wholes((poly,))
    check_not_nought((poly,))
    divisor = content(poly) if poly.lead > 0 else -content(poly)
    return Poly("whole", tuple([number // divisor for number in poly.coefficients]))


def bare(poly):
    """The product of a poly's unlike monic singles, over a field."""
    parts = powers(poly)
    total = Poly(poly.kind, (1,))
    for part, _ in parts:
        total = total * part
    return total


def powers(poly):
    """The tuple of pairs (part, k), k ascending, each part the product of the monic singles that are parts k times."""
    check_poly(poly)
    check_fields((poly,))
    check_not_nought((poly,))
    found = _parts_by_power(poly.monic())
    return tuple([(found[many], many) for many in sorted(list(found))])


def _parts_by_power(poly):
    """For a monic poly, under each k the product of the singles that are parts just k times."""
    found = {}
    left = common(poly, poly.slope())
    rising = poly // left
    many = 1
    # `rising` has each single once that is a part many times or more, but for those that the slope does not see.
    while rising.degree > 0:
        again = common(rising, left)
        if again.degree < rising.degree:
            found[many] = rising // again
        rising, left = again, left // again
        many += 1
    hidden = _hidden_parts(left)
    for times in hidden:
        found[times] = hidden[times]
    return found


def _hidden_parts(power):
    """The same of a power by P, whose slope is nought: its coefficients are those of its root, at each P-th index."""
    if power.degree == 0:
        return {}
    prime = modulus_of(power.kind)
    inner = _parts_by_power(Poly(power.kind, power.coefficients[::prime]))
    return {many * prime: inner[many] for many in inner}
