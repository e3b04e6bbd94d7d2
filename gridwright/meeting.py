"""Polys that leave what is told by others, that go through points, and shares."""

from gridwright.checks import check_alike_kinds, check_fields, check_not_nought, check_poly
from gridwright.dividing import are_clear, bezout, common, inverse_by, least_multiple
from gridwright.errors import InvalidBottoms, InvalidPoints, NotAField, TooGreat
from gridwright.kinds import check_kind, is_field
from gridwright.polys import Poly
from gridwright.scalars import scalar_in, scalar_inverse

_MOST_POINTS = 24
_MOST_BOTTOMS = 8


def through(kind, points):
    """The poly of least degree through points with unlike first numbers of a field."""
    check_kind(kind)
    if not is_field(kind):
        raise NotAField(kind)
    total, zeros = Poly(kind, ()), Poly(kind, (1,))
    # `zeros` is nought at all points so far, so what is added changes nothing there.
    for place, worth in _led_points(kind, points):
        missing = worth - total.at(place)
        total = total + zeros * (missing * scalar_inverse(zeros.at(place)))
        zeros = zeros * Poly(kind, (-place, 1))
    return total


def _led_points(kind, points):
    """The list of the points, their numbers led to the kind."""
    if not isinstance(points, tuple) or not points:
        raise InvalidPoints(None)
    pairs = []
    for index, point in enumerate(points):
        pair = _led_pair(kind, point)
        if pair is None or index == _MOST_POINTS or any([pair[0] == place for place, _ in pairs]):
            raise InvalidPoints(index)
        pairs.append(pair)
    return pairs


def _led_pair(kind, point):
    """The point, its numbers led to the kind; None for what is no pair of such."""
    if not isinstance(point, tuple) or len(point) != 2:
        return None
    place, worth = scalar_in(kind, point[0]), scalar_in(kind, point[1])
    return None if place is None or worth is None else (place, worth)


def _check_told(poly, left, other, right):
    """That these are polys over one field, those that are divided by not nought."""
    told = (poly, left, other, right)
    for value in told:
        check_poly(value)
    check_fields(told)
    check_alike_kinds(told)
    check_not_nought((poly, other))


def mixed(poly, left, other, right):
    """The poly of least degree that leaves by the first poly what `left` leaves, and by `other` what `right` leaves."""
    _check_told(poly, left, other, right)
    shared, times, _ = bezout(poly, other)
    if (left - right) % shared:
        return None
    steps = (left - right) // shared
    return (left - steps * times * poly) % least_multiple(poly, other)


def disagreement(poly, left, other, right):
    """The rest of left - right by the common part, which shows that no poly is mixed; None if it is nought."""
    _check_told(poly, left, other, right)
    rest = (left - right) % common(poly, other)
    return rest if rest else None


def shares(poly, bottoms):
    """The tuple of shares, each of a degree below its bottom's, that add up to a poly, each times the other bottoms."""
    check_poly(poly)
    check_fields((poly,))
    _check_bottoms(poly.kind, bottoms)
    together = Poly(poly.kind, (1,))
    for bottom in bottoms:
        together = together * bottom
    if poly.degree >= together.degree:
        raise TooGreat(poly.degree)
    return tuple([poly * inverse_by(together // bottom, bottom) % bottom for bottom in bottoms])


def _check_bottoms(kind, bottoms):
    if not isinstance(bottoms, tuple) or not bottoms:
        raise InvalidBottoms(None)
    for index, bottom in enumerate(bottoms):
        if index == _MOST_BOTTOMS or not _is_bottom(kind, bottom, bottoms[:index]):
            raise InvalidBottoms(index)


def _is_bottom(kind, bottom, ahead):
    """Whether a value is a poly over the kind, of degree 1 or more, clear of the polys ahead."""
    if not isinstance(bottom, Poly) or bottom.kind != kind or bottom.degree < 1:
        return False
    return all([are_clear(bottom, earlier) for earlier in ahead])
