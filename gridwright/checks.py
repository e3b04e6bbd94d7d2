"""What the parameters of many functions are looked at for.

The checks stand in the order in which their errors are raised. Those that take several values belong behind all checks
of single parameters; their errors are told of the first value of which they are so.
"""

from gridwright.errors import InvalidNumber, NotAField, NotAPoly, NotWhole, Nought, Unlike
from gridwright.kinds import is_field
from gridwright.polys import Poly
from gridwright.wholes import lies_between


def check_poly(value):
    """That a value is a poly."""
    if not isinstance(value, Poly):
        raise NotAPoly(value)


def check_between(value, low, high):
    """That a value is a whole number from low to high."""
    if not lies_between(value, low, high):
        raise InvalidNumber(value)


def check_fields(values):
    """That all values are over fields."""
    for value in values:
        if not is_field(value.kind):
            raise NotAField(value.kind)


def check_wholes(values):
    """That all values are whole."""
    for value in values:
        if value.kind != "whole":
            raise NotWhole(value.kind)


def check_alike_kinds(values):
    """That all values are of the first one's kind."""
    kind = values[0].kind
    for value in values:
        if value.kind != kind:
            raise Unlike(kind, value.kind)


def check_not_nought(values):
    """That no value is nought."""
    for value in values:
        if not value:
            raise Nought()
