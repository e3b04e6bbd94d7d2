"""Kinds and numbers of all kinds."""

from gridwright.errors import InvalidKind, InvalidNumber, InvalidText, NotANumber, NotAUnit
from gridwright.polys import Poly, coefficients_text, read_coefficients
from gridwright.scalars import (
    is_coefficient_kind, is_scalar_field, is_scalar_kind, read_scalar, scalar_inverse, scalar_kind, scalar_of,
    scalar_text,
)
from gridwright.wholes import is_whole_number


def coefficient_kind(kind):
    """K of the text `poly K`; None of any other value."""
    if not isinstance(kind, str) or not kind.startswith("poly "):
        return None
    return kind[5:] if is_coefficient_kind(kind[5:]) else None


def kind_or_none(value):
    """The kind of a number; None of what is none."""
    if isinstance(value, Poly):
        return f"poly {value.kind}"
    return scalar_kind(value)


def kind_of(number):
    """The kind of a number."""
    kind = kind_or_none(number)
    if kind is None:
        raise NotANumber(number)
    return kind


def is_kind(value):
    """Whether a value is a kind."""
    return is_scalar_kind(value) or coefficient_kind(value) is not None


def check_kind(kind):
    """That a value is a kind."""
    if not is_kind(kind):
        raise InvalidKind(kind)


def is_field(value):
    """Whether a value is a kind in which each number but nought has an inverse."""
    return is_scalar_field(value)


def nought(kind):
    """The nought of a kind."""
    return number_of(kind, 0)


def one(kind):
    """The one of a kind."""
    return number_of(kind, 1)


def number_of(kind, whole):
    """The number of the kind to which a whole number leads."""
    check_kind(kind)
    if not is_whole_number(whole):
        raise InvalidNumber(whole)
    inner = coefficient_kind(kind)
    return scalar_of(kind, whole) if inner is None else Poly(inner, (whole,))


def number_in(kind, value):
    """The number of the kind that a value is or, if it is whole, leads to; None for others."""
    if not is_whole_number(value):
        return value if kind_or_none(value) == kind else None
    return value if kind == "whole" else number_of(kind, value)


def written(number):
    """The text of a number, its kind being known."""
    if isinstance(number, Poly):
        return coefficients_text(number)
    if scalar_kind(number) is None:
        raise NotANumber(number)
    return scalar_text(number)


def read_number(kind, text):
    """The number of the kind with this text."""
    check_kind(kind)
    number = number_or_none(kind, text) if isinstance(text, str) else None
    if number is None:
        raise InvalidText(text)
    return number


def number_or_none(kind, text):
    """The number of the kind with this text, a string; None if there is none."""
    inner = coefficient_kind(kind)
    return read_scalar(kind, text) if inner is None else read_coefficients(inner, text)


def is_unit(number):
    """Whether a number has an inverse of its kind."""
    return inverse_or_none(number) is not None


def unit_inverse(number):
    """What makes 1 with a number."""
    inverse = inverse_or_none(number)
    if inverse is None:
        raise NotAUnit(number)
    return inverse


def inverse_or_none(number):
    """The inverse of a number of any kind; None if it has none."""
    if not isinstance(number, Poly):
        if scalar_kind(number) is None:
            raise NotANumber(number)
        return scalar_inverse(number)
    if number.degree != 0:
        return None
    inverse = scalar_inverse(number.lead)
    return None if inverse is None else Poly(number.kind, (inverse,))
