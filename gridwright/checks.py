"""What the parameters of many functions are looked at for.

The checks stand in the order in which their errors are raised. Those that take several values belong behind all checks
of single parameters; their errors are told of the first value of which they are so.
"""

from gridwright.errors import (
    InvalidIndex, InvalidNumber, InvalidShape, NotAField, NotAPoly, NotMonic, NotRests, NotSquare, NotWhole, Nought,
    TooMany, Unlike,
)
from gridwright.kinds import is_field
from gridwright.limits import MOST_PRIME, MOST_SIDE
from gridwright.polys import Poly
from gridwright.scalars import modulus_of
from gridwright.wholes import is_prime, lies_between


def check_poly(value):
    """That a value is a poly."""
    if not isinstance(value, Poly):
        raise NotAPoly(value)


def check_between(value, low, high):
    """That a value is a whole number from low to high."""
    if not lies_between(value, low, high):
        raise InvalidNumber(value)


def check_index(value, many):
    """That a value is an index of one of so many things."""
    if not lies_between(value, 0, many - 1):
        raise InvalidIndex(value)


def check_prime(value):
    """That a value is a prime below the bound that is told of no other one."""
    if not lies_between(value, 2, MOST_PRIME - 1) or not is_prime(value):
        raise InvalidNumber(value)


def check_fields(values):
    """That all values are over fields."""
    for value in values:
        if not is_field(value.kind):
            raise NotAField(value.kind)


def check_wholes(values):
    """That all values are whole."""
    for value in values:
        if value.kind != "whole":
            raise NotWhole(value.kind)


def check_rests(values):
    """That all values are of rests."""
    for value in values:
        if modulus_of(value.kind) is None:
            raise NotRests(value.kind)


def check_wholes_or_fields(values):
    """That all values are whole or over fields."""
    for value in values:
        if value.kind != "whole" and not is_field(value.kind):
            raise NotAField(value.kind)


def check_alike_kinds(values):
    """That all values are of the first one's kind."""
    kind = values[0].kind
    for value in values:
        if value.kind != kind:
            raise Unlike(kind, value.kind)


def check_square(grid):
    """That a grid has as many rows as places."""
    if grid.shape[0] != grid.shape[1]:
        raise NotSquare(grid.shape)


def check_same_shape(value, other):
    """That two grids, or two columns, have one shape."""
    if value.shape != other.shape:
        raise InvalidShape(value.shape, other.shape)


def check_same_height(value, other):
    """That a grid has as many rows as another one, or as a column has numbers."""
    if value.shape[0] != other.shape[0]:
        raise InvalidShape(value.shape, other.shape)


def check_same_width(value, other):
    """That two grids have as many places in each row."""
    if value.shape[1] != other.shape[1]:
        raise InvalidShape(value.shape, other.shape)


def check_as_long(grid, column):
    """That a column has as many numbers as a grid has places in each row."""
    if grid.shape[1] != column.shape[0]:
        raise InvalidShape(grid.shape, column.shape)


def check_not_nought(values):
    """That no value is nought."""
    for value in values:
        if not value:
            raise Nought()


def check_monic(poly):
    """That a poly over a field is monic and of degree 1 or more."""
    if poly.degree < 1 or poly != poly.monic():
        raise NotMonic(poly)


def check_sides(height, width):
    """That a grid of this shape is not too great."""
    for side in (height, width):
        if side > MOST_SIDE:
            raise TooMany(side)
