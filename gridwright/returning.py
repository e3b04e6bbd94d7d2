"""The least exponent with which x leaves 1 by a poly, over a field of rests."""

from math import lcm

from gridwright.dividing import common, power_by, powers
from gridwright.polys import Poly
from gridwright.scalars import modulus_of
from gridwright.wholes import primes_of, raised


def round_of_letter(poly):
    """The least k from 1 on for which a poly by a prime, with a constant other than nought, divides x ** k - 1."""
    letter, unit = Poly(poly.kind, (0, 1)), Poly(poly.kind, (1,)) % poly
    found = _sure_multiple(poly)
    for prime in primes_of(found):
        while found % prime == 0 and power_by(letter, found // prime, poly) == unit:
            found = found // prime
    return found


def _sure_multiple(poly):
    """A number of steps after which x comes to 1: for each single and, by square parts, a power of the prime more."""
    prime, total = modulus_of(poly.kind), 1
    for part, many in powers(poly):
        for degree in _degrees_of_singles(part):
            total = lcm(total, raised(1, prime, degree) - 1)
        again = 1
        while again < many:
            again = again * prime
        total = lcm(total, again)
    return total


def _degrees_of_singles(poly):
    """The ascending list of the degrees of the singles of a poly without square parts."""
    letter = Poly(poly.kind, (0, 1))
    left, power, degree = poly, letter, 0
    found = []
    while left.degree > 0:
        # Of x to the power of P ** d, less x, just the singles are parts whose degree divides d.
        degree += 1
        power = power_by(power, modulus_of(poly.kind), left)
        shared = common(power - letter, left)
        if shared.degree > 0:
            found.append(degree)
            left = left // shared
    return found
