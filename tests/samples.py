"""Polys and numbers over which several tests run."""

from itertools import product

from gridwright.polys import Poly
from gridwright.ratios import Ratio
from gridwright.rests import Rest

NO_KINDS = (
    "", "wholes", "Whole", " whole", "whole ", "ratio 2", "rest", "rest ", "rest 0", "rest 1", "rest 01", "rest 07",
    "rest +7", "rest -7", "rest  7", "rest 7 ", "rest 1000001", "rest 7.0", "rest x", "rest 1_0", "poly", "poly ",
    "poly rest 6", "poly rest 1", "poly rest 05", "poly poly whole", "poly  whole", "poly whole ", "grid whole",
)
COEFFICIENT_KINDS = ("whole", "ratio", "rest 2", "rest 3", "rest 999983")
OTHER_KINDS = ("rest 4", "rest 6", "rest 1000000", "rest 999999", "poly whole", "poly ratio", "poly rest 3")


def polys_by(prime, size):
    """All polys with at most this many coefficients."""
    return [Poly(f"rest {prime}", numbers) for numbers in product(range(prime), repeat=size)]


def whole_polys():
    return [Poly("whole", numbers) for numbers in product((-2, 0, 1), repeat=3)] + [Poly("whole", (0, 0, 0, 10 ** 40))]


def ratio_polys():
    numbers = (Ratio(-3, 2), 0, 1)
    return [Poly("ratio", chosen) for chosen in product(numbers, repeat=3)] + [Poly("ratio", (0, Ratio(1, 7), 0, 5))]


def numbers_of(kind):
    """Some numbers of a kind."""
    wholes = (-10 ** 40, -2, -1, 0, 1, 2, 12, 10 ** 40)
    if kind == "whole":
        return list(wholes)
    if kind == "ratio":
        return [Ratio(top, bottom) for top in wholes for bottom in (1, 6, 10 ** 20)]
    if kind.startswith("rest "):
        return [Rest(whole, int(kind[5:])) for whole in wholes]
    inner = kind[5:]
    return [Poly(inner, numbers) for size in (0, 1, 2, 3) for numbers in product(numbers_of(inner)[2:5], repeat=size)]


def naive(poly):
    """The coefficients as a dict by index, without noughts."""
    return {index: number for index, number in enumerate(poly.coefficients) if number}


def naive_product(poly, other):
    total = {}
    for (i, a), (k, b) in product(naive(poly).items(), naive(other).items()):
        total[i + k] = total.get(i + k, 0) + a * b
    return {index: number for index, number in total.items() if number}


def is_part(poly, other):
    """Whether a poly is a part of another one, by rest P: all polys of a fitting degree are tried."""
    if not other:
        return True
    if not poly or other.degree < poly.degree:
        return False
    prime = int(poly.kind[5:])
    return any(poly * times == other for times in polys_by(prime, other.degree - poly.degree + 1))


def monic_by(prime, most):
    """All monic polys up to a degree."""
    return [poly for poly in polys_by(prime, most + 1) if poly and poly.lead.number == 1]


def monic_singles(prime, most):
    """All monic singles up to a degree."""
    found = []
    for poly in sorted(monic_by(prime, most), key=lambda poly: poly.degree):
        if poly.degree > 0 and not any(is_part(single, poly) for single in found):
            found.append(poly)
    return found


def total_product(polys, kind):
    total = Poly(kind, (1,))
    for poly in polys:
        total = total * poly
    return total
