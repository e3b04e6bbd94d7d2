"""Ratios of whole numbers, in lowest terms."""

from math import gcd, isqrt, lcm

from gridwright.errors import InvalidNumber, InvalidText, NotANumber, NotAUnit
from gridwright.limits import MOST_POWER
from gridwright.wholes import is_whole_number, lies_between, raised, read_whole


class Ratio:
    """A top over a bottom above 0, without a common divisor above 1."""

    def __init__(self, top, bottom=1):
        if not is_whole_number(top):
            raise InvalidNumber(top)
        if not is_whole_number(bottom) or bottom == 0:
            raise InvalidNumber(bottom)
        shared = gcd(top, bottom) if bottom > 0 else -gcd(top, bottom)
        self.top = top // shared
        self.bottom = bottom // shared

    @staticmethod
    def read(text):
        """The ratio with this text."""
        ratio = read_ratio(text)
        if ratio is None:
            raise InvalidText(text)
        return ratio

    @property
    def is_whole(self):
        """Whether the bottom is 1."""
        return self.bottom == 1

    @property
    def text(self):
        """Top and bottom, with a stroke between."""
        return f"{self.top}/{self.bottom}"

    def __eq__(self, other):
        return isinstance(other, Ratio) and self.top == other.top and self.bottom == other.bottom

    def __bool__(self):
        return bool(self.top != 0)

    def __add__(self, other):
        ratio = as_ratio(other)
        if ratio is None:
            return NotImplemented
        return Ratio(self.top * ratio.bottom + ratio.top * self.bottom, self.bottom * ratio.bottom)

    def __radd__(self, other):
        ratio = as_ratio(other)
        if ratio is None:
            return NotImplemented
        return ratio + self

    def __sub__(self, other):
        ratio = as_ratio(other)
        if ratio is None:
            return NotImplemented
        return Ratio(self.top * ratio.bottom - ratio.top * self.bottom, self.bottom * ratio.bottom)

    def __rsub__(self, other):
        ratio = as_ratio(other)
        if ratio is None:
            return NotImplemented
        return ratio - self

    def __mul__(self, other):
        ratio = as_ratio(other)
        if ratio is None:
            return NotImplemented
        return Ratio(self.top * ratio.top, self.bottom * ratio.bottom)

    def __rmul__(self, other):
        ratio = as_ratio(other)
        if ratio is None:
            return NotImplemented
        return ratio * self

    def __pow__(self, other):
        return self.power(other)

    def __neg__(self):
        return Ratio(-self.top, self.bottom)

    def __abs__(self):
        return Ratio(abs(self.top), self.bottom)

    def power(self, exponent):
        """The ratio to the power of an exponent, which may be below 0 if the ratio is not nought."""
        if not lies_between(exponent, -MOST_POWER, MOST_POWER):
            raise InvalidNumber(exponent)
        base = self.inverse() if exponent < 0 else self
        return Ratio(raised(1, base.top, abs(exponent)), raised(1, base.bottom, abs(exponent)))

    def inverse(self):
        """The ratio that makes 1 with this one."""
        if self.top == 0:
            raise NotAUnit(self)
        return Ratio(self.bottom, self.top)

    def floor(self):
        """The greatest whole number that is not above the ratio."""
        return self.top // self.bottom

    def is_below(self, other):
        """Whether the ratio is less than another one or than a whole number."""
        ratio = as_ratio(other)
        if ratio is None:
            raise InvalidNumber(other)
        return self.top * ratio.bottom < ratio.top * self.bottom


def as_ratio(value):
    """The ratio that a value is or, if it is whole, leads to; None for others."""
    if isinstance(value, Ratio):
        return value
    if is_whole_number(value):
        return Ratio(value)
    return None


def read_ratio(text):
    """The ratio with this text; None if there is none."""
    if not isinstance(text, str):
        return None
    upper, _, lower = text.partition("/")
    top, bottom = read_whole(upper), read_whole(lower)
    if top is None or bottom is None or bottom < 1 or gcd(top, bottom) > 1:
        return None
    return Ratio(top, bottom)


def over_one_bottom(ratios):
    """The pair of the least common bottom of ratios and of the list of the tops that they have over it."""
    bottom = 1
    for ratio in ratios:
        bottom = lcm(bottom, ratio.bottom)
    return bottom, [ratio.top * (bottom // ratio.bottom) for ratio in ratios]


def square_root(number):
    """The ratio from 0 on whose square a ratio is; None if there is none."""
    if not isinstance(number, Ratio):
        raise NotANumber(number)
    if number.top < 0:
        return None
    top, bottom = isqrt(number.top), isqrt(number.bottom)
    if top * top != number.top or bottom * bottom != number.bottom:
        return None
    return Ratio(top, bottom)
