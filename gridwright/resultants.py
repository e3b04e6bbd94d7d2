"""Resultants, the tables whose determinants they are, and gaps."""

from gridwright.checks import check_alike_kinds, check_not_nought, check_poly
from gridwright.errors import NotMonic, NotOrdered, Nought, TooMany
from gridwright.grids import Grid
from gridwright.kinds import number_of, unit_inverse
from gridwright.leading import led
from gridwright.limits import MOST_SIDE
from gridwright.wholes import raised


def _check_pair(poly, other):
    """That these are two polys over one kind, none of them nought."""
    check_poly(poly)
    check_poly(other)
    check_alike_kinds((poly, other))
    check_not_nought((poly, other))


def table_of(poly, other):
    """The grid whose determinant is the resultant of two polys."""
    _check_pair(poly, other)
    size = poly.degree + other.degree
    if size > MOST_SIDE:
        raise TooMany(size)
    if size == 0:
        raise Nought()
    return Grid(_shifted_rows(poly, size) + _shifted_rows(other, size))


def _shifted_rows(poly, size):
    """The rows with a poly's coefficients, the highest first, each one place further right."""
    highest_first = poly.coefficients[::-1]
    many = size - poly.degree
    return tuple([(0,) * k + highest_first + (0,) * (many - 1 - k) for k in range(many)])


def resultant(poly, other):
    """The determinant of the table of two polys, 1 if both are numbers."""
    _check_pair(poly, other)
    if poly.kind != "whole":
        return _resultant_over_field(poly, other)
    return _resultant_over_field(led(poly, "poly ratio"), led(other, "poly ratio")).top


def _resultant_over_field(poly, other):
    """The same over a field: a multiple of the divisor taken away changes nothing but the number of rows."""
    total, upper, lower = number_of(poly.kind, 1), poly, other
    while lower.degree > 0:
        total = total * raised(number_of(poly.kind, 1), lower.lead, upper.degree)
        # Monic divisors keep the coefficients of ratios short.
        lower = lower.monic()
        rest = upper % lower
        if not rest:
            return number_of(poly.kind, 0)
        if upper.degree * lower.degree % 2 == 1:
            total = -total
        upper, lower = lower, rest
    return total * raised(number_of(poly.kind, 1), lower.lead, upper.degree)


def gap(poly):
    """The resultant of a poly over whole numbers or ratios and of its slope, by its lead, with the told sign."""
    check_poly(poly)
    if poly.kind not in ("whole", "ratio"):
        raise NotOrdered(poly.kind)
    check_not_nought((poly,))
    if poly.degree == 0:
        raise NotMonic(poly)
    number = resultant(poly, poly.slope())
    quotient = number // poly.lead if poly.kind == "whole" else number * unit_inverse(poly.lead)
    return -quotient if poly.degree * (poly.degree - 1) // 2 % 2 == 1 else quotient
