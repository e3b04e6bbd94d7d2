"""Roots of polys over ratios: the ratios among them, and stretches in which the real ones lie."""

from math import gcd

from gridwright.checks import check_not_nought, check_poly
from gridwright.dividing import bare, primitive
from gridwright.errors import InvalidNumber, NoSuchRoot, NotMonic, NotOrdered, TooMany
from gridwright.polys import Poly
from gridwright.ratios import Ratio, as_ratio, over_one_bottom

_MOST_PARTED = 10 ** 6


def _check_over_ratios(poly):
    """That a poly is over ratios and not nought."""
    if poly.kind != "ratio":
        raise NotOrdered(poly.kind)
    check_not_nought((poly,))


def _whole_coefficients(poly):
    """The coefficients of the whole poly that is a number above 0 times one over ratios."""
    _, wholes = over_one_bottom(poly.coefficients)
    return tuple(wholes)


def _total_at(wholes, place):
    """A whole poly at a ratio, times its bottom to the power of the degree."""
    total, scale = 0, 1
    for number in wholes[::-1]:
        total = total * place.top + number * scale
        scale = scale * place.bottom
    return total


def ratio_roots(poly):
    """The pairs of each ratio at which a poly is nought, and of how often x less it is a part, ascending."""
    check_poly(poly)
    _check_over_ratios(poly)
    wholes = primitive(Poly("whole", _whole_coefficients(poly))).coefficients
    ahead = 0
    while wholes[ahead] == 0:
        ahead += 1
    for number in (wholes[ahead], wholes[-1]):
        if abs(number) > _MOST_PARTED:
            raise TooMany(abs(number))
    found = []
    if ahead > 0:
        found.append((Ratio(0), ahead))
    for root in _candidates(wholes[ahead:]):
        found.append((root, _times_a_root(poly, root)))
    _, tops = over_one_bottom([root for root, _ in found])
    return tuple([found[at] for _, at in sorted([(top, k) for k, top in enumerate(tops)])])


def _candidates(wholes):
    """The list of the ratios that can be roots of a whole poly with a constant other than nought."""
    at_one, at_minus_one = _total_at(wholes, Ratio(1)), _total_at(wholes, Ratio(-1))
    found = []
    for bottom in _divisors(wholes[-1]):
        for size in _divisors(wholes[0]):
            for top in (size, -size):
                # A whole poly of which bottom * x - top is a part has its value at 1 and at -1 as a part of its own.
                if gcd(top, bottom) == 1 and _divides(bottom - top, at_one) and _divides(bottom + top, at_minus_one):
                    found.append(Ratio(top, bottom))
    return [root for root in found if _total_at(wholes, root) == 0]


def _divides(divisor, number):
    return number % divisor == 0 if divisor != 0 else number == 0


def _divisors(number):
    """The list of the divisors from 1 on of a whole number other than nought."""
    size, divisor = abs(number), 1
    found = []
    while divisor * divisor <= size:
        if size % divisor == 0:
            found.append(divisor)
            if divisor * divisor < size:
                found.append(size // divisor)
        divisor += 1
    return found


def _times_a_root(poly, root):
    """How often x less a ratio is a part of a poly."""
    left, many = poly, 0
    while not left.at(root):
        left = left // Poly("ratio", (-root, 1))
        many += 1
    return many


def signs_row(poly):
    """The bare poly, its slope, and then each time the rest of the last but one by the last, with the other sign."""
    check_poly(poly)
    _check_over_ratios(poly)
    if poly.degree == 0:
        raise NotMonic(poly)
    found = [bare(poly)]
    following = found[0].slope()
    while following:
        found.append(following)
        following = -(found[-2] % found[-1])
    return tuple(found)


def _whole_row(poly):
    """The signs' row, each poly times a number above 0; of a number itself alone."""
    row = (poly,) if poly.degree == 0 else signs_row(poly)
    return tuple([_whole_coefficients(part) for part in row])


def _changes(numbers):
    """How often the sign changes along numbers, noughts left out."""
    above = [number > 0 for number in numbers if number != 0]
    return len([k for k in range(1, len(above)) if above[k] != above[k - 1]])


def _changes_at(row, place):
    """The changes of sign along the row at a ratio."""
    return _changes([_total_at(wholes, place) for wholes in row])


def _changes_from(row, low):
    """The same at a lower end; below all numbers, if it is None."""
    if low is not None:
        return _changes_at(row, low)
    return _changes([wholes[-1] if len(wholes) % 2 == 1 else -wholes[-1] for wholes in row])


def _changes_to(row, high):
    """The same at an upper end; above all numbers, if it is None."""
    return _changes([wholes[-1] for wholes in row]) if high is None else _changes_at(row, high)


def _check_end(value):
    """That a value is a ratio, a whole number, or None."""
    if value is not None and as_ratio(value) is None:
        raise InvalidNumber(value)


def _check_width(value):
    """That a value is a ratio or a whole number above 0."""
    width = as_ratio(value)
    if width is None or width.top < 1:
        raise InvalidNumber(value)


def _check_ascending(low, high):
    """That the lower end is not above the upper one."""
    if low is not None and high is not None and as_ratio(high).is_below(low):
        raise InvalidNumber(low)


def count_real(poly, low, high):
    """How many unlike real roots lie from low, left out, to high, counted; None stands for no end."""
    check_poly(poly)
    _check_end(low)
    _check_end(high)
    _check_over_ratios(poly)
    _check_ascending(low, high)
    row = _whole_row(poly)
    return _changes_from(row, as_ratio(low)) - _changes_to(row, as_ratio(high))


def _bound(poly):
    """A ratio above the sizes of all real roots."""
    greatest = Ratio(0)
    for number in poly.monic().coefficients[:-1]:
        if greatest.is_below(abs(number)):
            greatest = abs(number)
    return greatest + 1


def _middle(low, high):
    return (low + high) * Ratio(1, 2)


def stretches(poly):
    """Pairs of ratios, ascending, each with just one real root from its first, left out, to its second number."""
    check_poly(poly)
    _check_over_ratios(poly)
    row, bound = _whole_row(poly), _bound(poly)
    # No root lies at the bound itself: there the first summand is greater than all others together.
    left = [(-bound, _changes_from(row, None), bound, _changes_to(row, None))]
    found = []
    while left:
        low, at_low, high, at_high = left.pop()
        if at_low - at_high == 1:
            found.append((low, high))
        elif at_low - at_high > 1:
            middle = _middle(low, high)
            at_middle = _changes_at(row, middle)
            left.append((middle, at_middle, high, at_high))
            left.append((low, at_low, middle, at_middle))
    return tuple(found)


def narrowed(poly, low, high, width):
    """A pair of ratios, not wider than the width, with the one root that lies from low, left out, to high, counted."""
    check_poly(poly)
    _check_end(low)
    _check_end(high)
    _check_width(width)
    if count_real(poly, low, high) != 1:
        raise NoSuchRoot()
    row, bound = _whole_row(poly), _bound(poly)
    below = -bound if low is None else as_ratio(low)
    above = bound if high is None else as_ratio(high)
    at_below = _changes_at(row, below)
    while as_ratio(width).is_below(above - below):
        middle = _middle(below, above)
        if _changes_at(row, middle) == at_below:
            below = middle
        else:
            above = middle
    return below, above
