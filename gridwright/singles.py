"""Monic singles of polys by a prime, and how many of them there are."""

from gridwright.checks import check_between, check_monic, check_not_nought, check_poly, check_prime
from gridwright.dividing import common, power_by, powers
from gridwright.errors import NotRests, TooMany
from gridwright.grids import Grid
from gridwright.kinds import number_of
from gridwright.limits import MOST_PRIME, MOST_SIDE
from gridwright.polys import Poly
from gridwright.scalars import is_scalar_field, modulus_of
from gridwright.stepping import nought_rows
from gridwright.tables import one_rows, row_less, turned_rows
from gridwright.wholes import raised

_MOST_DEGREE = 24


def _check_by_prime(poly):
    """That a value is a poly by a prime below 100, not nought."""
    check_poly(poly)
    if poly.kind == "ratio" or not is_scalar_field(poly.kind) or modulus_of(poly.kind) >= MOST_PRIME:
        raise NotRests(poly.kind)
    check_not_nought((poly,))


def singles(poly):
    """The pairs of each monic single that is a part, and of how often it is one, ascending."""
    _check_by_prime(poly)
    if poly.degree > _MOST_DEGREE:
        raise TooMany(poly.degree)
    found = []
    for part, many in powers(poly):
        for single in _parts_of(part):
            found.append((single.degree, tuple([rest.number for rest in single.coefficients]), many))
    return tuple([(Poly(poly.kind, numbers), many) for _, numbers, many in sorted(found)])


def _kept_rows(poly):
    """The rows of the keeping grid of a monic poly, of whatever degree from 1 on."""
    step = power_by(Poly(poly.kind, (0, 1)), modulus_of(poly.kind), poly)
    rows = []
    current = Poly(poly.kind, (1,))
    for _ in range(poly.degree):
        behind = [number_of(poly.kind, 0)] * (poly.degree - len(current.coefficients))
        rows.append(current.coefficients + tuple(behind))
        current = current * step % poly
    return tuple(rows)


def _parts_of(poly):
    """The list of the singles of a monic poly of degree 1 or more without square parts (Berlekamp 1967)."""
    ones = one_rows(poly.kind, poly.degree)
    rows = [row_less(row, ones[k], 1) for k, row in enumerate(_kept_rows(poly))]
    # Each of these leaves one number by each single; all together tell any two singles apart.
    kept = [Poly(poly.kind, row) for row in nought_rows(poly.kind, turned_rows(rows), poly.degree)]
    parts = [poly]
    for telling in kept:
        if len(parts) < len(kept):
            parts = [found for part in parts for found in _parted_by(part, telling)]
    return parts


def _parted_by(poly, telling):
    """The list of the parts of a poly by which another one leaves unlike numbers."""
    found = []
    left, rest, number = poly, telling % poly, 0
    while rest.degree > 0:
        shared = common(left, rest - number)
        if shared.degree > 0:
            found.append(shared)
            left = left // shared
            rest = rest % left
        number += 1
    return found + [left]


def count_singles(poly):
    """How many unlike monic singles are parts of a poly."""
    return len(singles(poly))


def is_single(poly):
    """Whether a poly has a degree from 1 on, and each part of it is a number or a number times it."""
    found = singles(poly)
    return len(found) == 1 and found[0][1] == 1


def keeping_grid(poly):
    """The grid whose row i has the coefficients of x to the power of P * i, divided by a monic poly with rest."""
    _check_by_prime(poly)
    check_monic(poly)
    if poly.degree > MOST_SIDE:
        raise TooMany(poly.degree)
    return Grid(_kept_rows(poly))


def number_of_singles(prime, degree):
    """How many monic singles of this degree there are by the prime."""
    check_prime(prime)
    check_between(degree, 1, _MOST_DEGREE)
    # The degrees that divide this one, each times the number of its singles, add up to the power (Gauss).
    found = {}
    for size in range(1, degree + 1):
        if degree % size == 0:
            inner = sum([divisor * found[divisor] for divisor in found if size % divisor == 0])
            found[size] = (raised(1, prime, size) - inner) // size
    return found[degree]


def roots_of(poly):
    """The ascending tuple of the numbers of all rests at which a poly by a prime is nought."""
    _check_by_prime(poly)
    return tuple([number for number in range(modulus_of(poly.kind)) if not poly.at(number)])
