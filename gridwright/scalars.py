"""The numbers that can be coefficients: whole ones, ratios, rests; by the texts of their kinds.

The interface's own words about numbers of all kinds stand in kinds.py, which needs the polys, which need this.
"""

from gridwright.limits import MOST_MODULUS
from gridwright.ratios import Ratio, read_ratio
from gridwright.rests import Rest
from gridwright.wholes import is_prime, is_whole_number, lies_between, read_whole


def modulus_of(kind):
    """M of the text `rest M`; None of any other value."""
    if not isinstance(kind, str) or not kind.startswith("rest "):
        return None
    modulus = read_whole(kind[5:])
    return modulus if lies_between(modulus, 2, MOST_MODULUS) else None


def is_scalar_kind(value):
    """Whether a value is the text of a kind other than those of polys."""
    return isinstance(value, str) and (value in ("whole", "ratio") or modulus_of(value) is not None)


def is_scalar_field(value):
    """Whether a value is the text of a field."""
    modulus = modulus_of(value)
    if modulus is None:
        return isinstance(value, str) and value == "ratio"
    return is_prime(modulus)


def is_coefficient_kind(value):
    """Whether a value is the text of a kind over which there are polys."""
    return isinstance(value, str) and (value == "whole" or is_scalar_field(value))


def scalar_kind(value):
    """The kind of a whole number, a ratio or a rest; None for other values."""
    if is_whole_number(value):
        return "whole"
    if isinstance(value, Ratio):
        return "ratio"
    if isinstance(value, Rest):
        return f"rest {value.modulus}"
    return None


def scalar_of(kind, whole):
    """The number of the kind to which a whole number leads."""
    if kind == "whole":
        return whole
    if kind == "ratio":
        return Ratio(whole)
    return Rest(whole, modulus_of(kind))


def scalar_in(kind, value):
    """The number of the kind that a value is or, if it is whole, leads to; None for others."""
    if is_whole_number(value):
        return scalar_of(kind, value)
    return value if scalar_kind(value) == kind else None


def scalar_inverse(number):
    """The inverse of a whole number, a ratio or a rest; None if it has none."""
    if is_whole_number(number):
        return number if number in (1, -1) else None
    if isinstance(number, Rest):
        return number.inverse() if number.is_unit else None
    return number.inverse() if number else None


def scalar_text(number):
    """The text of a whole number, a ratio or a rest."""
    return str(number) if is_whole_number(number) else number.text


def read_scalar(kind, text):
    """The number of the kind with this text, a string; None if there is none."""
    if kind == "ratio":
        return read_ratio(text)
    whole = read_whole(text)
    if kind == "whole" or whole is None:
        return whole
    modulus = modulus_of(kind)
    return Rest(whole, modulus) if 0 <= whole < modulus else None
