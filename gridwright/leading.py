"""Numbers, polys, columns and grids led from one kind to another one, and to whole numbers."""

from math import gcd

from gridwright.columns import Column
from gridwright.errors import NotANumber, NotAUnit, NotLed, NotWhole
from gridwright.grids import Grid
from gridwright.kinds import check_kind, coefficient_kind, kind_or_none, number_of
from gridwright.polys import Poly
from gridwright.ratios import Ratio, over_one_bottom
from gridwright.rests import Rest
from gridwright.scalars import modulus_of
from gridwright.wholes import inverse_by_whole, is_whole_number


def _leads(kind, other):
    """Whether numbers of one kind lead to those of another one, but for bottoms."""
    inner = coefficient_kind(other)
    if kind in ("whole", other):
        return True
    if inner is not None:
        own = coefficient_kind(kind)
        return _leads(kind if own is None else own, inner)
    modulus, divisor = modulus_of(kind), modulus_of(other)
    if divisor is None:
        return False
    return kind == "ratio" or (modulus is not None and modulus % divisor == 0)


def _kind_of_value(value):
    """The kind of a number, a column or a grid."""
    kind = value.kind if isinstance(value, (Column, Grid)) else kind_or_none(value)
    if kind is None:
        raise NotANumber(value)
    return kind


def _numbers_in(value):
    """The list of the numbers of a column, or of a grid, row by row; of a number itself."""
    if isinstance(value, Column):
        return list(value.entries)
    if isinstance(value, Grid):
        return [entry for row in value.rows for entry in row]
    return [value]


def _put_back(value, numbers):
    """What a value becomes with these numbers in the place of its own."""
    if isinstance(value, Column):
        return Column(tuple(numbers))
    if isinstance(value, Grid):
        height, width = value.shape
        return Grid(tuple([tuple(numbers[k * width:(k + 1) * width]) for k in range(height)]))
    return numbers[0]


def _check_bottoms(numbers, kind):
    """That all bottoms of ratios are units by the modulus of a kind, if it has one."""
    inner = coefficient_kind(kind)
    modulus = modulus_of(kind if inner is None else inner)
    for number in numbers:
        for scalar in number.coefficients if isinstance(number, Poly) else (number,):
            if modulus is not None and isinstance(scalar, Ratio) and gcd(scalar.bottom, modulus) > 1:
                raise NotAUnit(scalar.bottom)


def _led_number(number, kind):
    """The number of the kind to which one leads."""
    inner = coefficient_kind(kind)
    if isinstance(number, Poly):
        return Poly(inner, tuple([_led_number(part, inner) for part in number.coefficients]))
    if inner is not None:
        return Poly(inner, (_led_number(number, inner),))
    modulus = modulus_of(kind)
    if is_whole_number(number):
        return number_of(kind, number)
    if modulus is None:
        return number
    if isinstance(number, Ratio):
        return Rest(number.top * inverse_by_whole(number.bottom, modulus), modulus)
    return Rest(number.number, modulus)


def led(value, kind):
    """A number, a poly, a column or a grid, led to a kind."""
    own = _kind_of_value(value)
    check_kind(kind)
    if not _leads(own, kind):
        raise NotLed(own, kind)
    numbers = _numbers_in(value)
    _check_bottoms(numbers, kind)
    return _put_back(value, [_led_number(number, kind) for number in numbers])


def to_whole(value):
    """The least whole number from 1 on that times a column or a grid is whole, and this; of rests 1 and the numbers."""
    if not isinstance(value, (Column, Grid)):
        raise NotANumber(value)
    if value.kind == "whole":
        return 1, value
    numbers = _numbers_in(value)
    if modulus_of(value.kind) is not None:
        return 1, _put_back(value, [rest.number for rest in numbers])
    if value.kind != "ratio":
        raise NotWhole(value.kind)
    times, wholes = over_one_bottom(numbers)
    return times, _put_back(value, wholes)
