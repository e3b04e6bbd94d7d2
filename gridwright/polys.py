"""Polynomials over whole numbers, ratios, or rests by a prime."""

from gridwright.errors import (
    InvalidCoefficients, InvalidKind, InvalidNumber, InvalidText, NotAField, NotAPoly, NotAUnit, Nought, Unlike,
)
from gridwright.limits import MOST_POWER
from gridwright.ratios import Ratio, over_one_bottom
from gridwright.scalars import (
    is_coefficient_kind, is_scalar_field, read_scalar, scalar_in, scalar_inverse, scalar_of, scalar_text,
)
from gridwright.wholes import lies_between, raised


class Poly:
    """Coefficients of one kind, the constant first, without noughts at the end."""

    def __init__(self, kind, coefficients):
        if not is_coefficient_kind(kind):
            raise InvalidKind(kind)
        if not isinstance(coefficients, tuple):
            raise InvalidCoefficients(None)
        numbers = [scalar_in(kind, value) for value in coefficients]
        for index, number in enumerate(numbers):
            if number is None:
                raise InvalidCoefficients(index)
        many = len(numbers)
        while many > 0 and not numbers[many - 1]:
            many = many - 1
        self.kind = kind
        self.coefficients = tuple(numbers[:many])

    @staticmethod
    def read(text):
        """The poly with this text, by itself."""
        poly = read_poly(text)
        if poly is None:
            raise InvalidText(text)
        return poly

    @property
    def degree(self):
        """The index of the lead, -1 for nought."""
        return len(self.coefficients) - 1

    @property
    def lead(self):
        """The last coefficient, None for nought."""
        return self.coefficients[-1] if self.coefficients else None

    @property
    def text(self):
        """The text of the poly by itself."""
        return f"poly {self.kind}: {coefficients_text(self)}"

    def __eq__(self, other):
        return isinstance(other, Poly) and self.kind == other.kind and self.coefficients == other.coefficients

    def __bool__(self):
        return bool(self.coefficients)

    def __add__(self, other):
        poly = _poly_beside(self, other)
        if poly is None:
            return NotImplemented
        return Poly(self.kind, _sums(self.coefficients, poly.coefficients))

    def __radd__(self, other):
        poly = _poly_beside(self, other)
        if poly is None:
            return NotImplemented
        return poly + self

    def __sub__(self, other):
        poly = _poly_beside(self, other)
        if poly is None:
            return NotImplemented
        return self + (-poly)

    def __rsub__(self, other):
        poly = _poly_beside(self, other)
        if poly is None:
            return NotImplemented
        return poly - self

    def __mul__(self, other):
        poly = _poly_beside(self, other)
        if poly is None:
            return NotImplemented
        return Poly(self.kind, _products_of_kind(self.kind, self.coefficients, poly.coefficients))

    def __rmul__(self, other):
        poly = _poly_beside(self, other)
        if poly is None:
            return NotImplemented
        return poly * self

    def __pow__(self, other):
        return self.power(other)

    def __floordiv__(self, other):
        if not isinstance(other, Poly):
            return NotImplemented
        quotient, _ = quotient_and_rest(self, other)
        return quotient

    def __mod__(self, other):
        if not isinstance(other, Poly):
            return NotImplemented
        _, rest = quotient_and_rest(self, other)
        return rest

    def __neg__(self):
        return Poly(self.kind, tuple([-number for number in self.coefficients]))

    def power(self, exponent):
        """The poly to the power of an exponent from 0 on."""
        if not lies_between(exponent, 0, MOST_POWER):
            raise InvalidNumber(exponent)
        return raised(Poly(self.kind, (1,)), self, exponent)

    def at(self, number):
        """The value at a number."""
        place = scalar_in(self.kind, number)
        if place is None:
            raise InvalidNumber(number)
        total = scalar_of(self.kind, 0)
        for coefficient in self.coefficients[::-1]:
            total = total * place + coefficient
        return total

    def slope(self):
        """The poly with k times the coefficient k at the index k - 1."""
        times = [number * index for index, number in enumerate(self.coefficients)]
        return Poly(self.kind, tuple(times[1:]))

    def monic(self):
        """The poly divided by its lead."""
        if not is_scalar_field(self.kind):
            raise NotAField(self.kind)
        if not self:
            raise Nought()
        return self * scalar_inverse(self.lead)

    def put(self, other):
        """The poly with another one in the place of x."""
        if not isinstance(other, Poly):
            raise NotAPoly(other)
        if other.kind != self.kind:
            raise Unlike(self.kind, other.kind)
        total = Poly(self.kind, ())
        for coefficient in self.coefficients[::-1]:
            total = total * other + coefficient
        return total


def _poly_beside(poly, other):
    """The poly as which the other side of a sign counts beside a poly; None for what may not stand there."""
    if isinstance(other, Poly):
        if other.kind != poly.kind:
            raise Unlike(poly.kind, other.kind)
        return other
    number = scalar_in(poly.kind, other)
    return None if number is None else Poly(poly.kind, (number,))


def _sums(numbers, others):
    """The coefficients of a sum."""
    longer, shorter = (numbers, others) if len(numbers) > len(others) else (others, numbers)
    return tuple([longer[k] + shorter[k] for k in range(len(shorter))]) + longer[len(shorter):]


def _products(numbers, others):
    """The coefficients of a product, perhaps with a nought at the end."""
    total = [0 for _ in range(len(numbers) + len(others))]
    for index, number in enumerate(numbers):
        for step, other in enumerate(others):
            total[index + step] = total[index + step] + number * other
    return tuple(total)


def _products_of_kind(kind, numbers, others):
    """The same, the kind being known: of ratios only the sums are brought to lowest terms, as each time costs much."""
    if kind != "ratio":
        return _products(numbers, others)
    bottom, wholes = over_one_bottom(numbers)
    other_bottom, other_wholes = over_one_bottom(others)
    return tuple([Ratio(top, bottom * other_bottom) for top in _products(wholes, other_wholes)])


def quotient_and_rest(poly, other):
    """The pair of quotient and rest of two polys."""
    if other.kind != poly.kind:
        raise Unlike(poly.kind, other.kind)
    if not other:
        raise Nought()
    inverse = scalar_inverse(other.lead)
    if inverse is None:
        raise NotAUnit(other.lead)
    many = poly.degree - other.degree + 1
    left = list(poly.coefficients)
    quotient = [0 for _ in range(many)]
    for place in reversed(range(many)):
        quotient[place] = left[place + other.degree] * inverse
        for index, number in enumerate(other.coefficients):
            left[place + index] = left[place + index] - quotient[place] * number
    return Poly(poly.kind, tuple(quotient)), Poly(poly.kind, tuple(left[:other.degree]))


def coefficients_text(poly):
    """The text of a poly as a number, its kind being known."""
    inner = ",".join([scalar_text(number) for number in poly.coefficients])
    return f"({inner})"


def read_coefficients(kind, text):
    """The poly over a kind that has this text, a string, as a number; None if there is none."""
    if not text.startswith("(") or not text.endswith(")"):
        return None
    inner = text[1:-1]
    parts = inner.split(",") if inner else []
    numbers = [read_scalar(kind, part) for part in parts]
    if any([number is None for number in numbers]):
        return None
    # With a nought at the end it would be a second text of one poly.
    if numbers and not numbers[-1]:
        return None
    return Poly(kind, tuple(numbers))


def read_poly(text):
    """The poly with this text by itself; None if there is none."""
    if not isinstance(text, str) or not text.startswith("poly "):
        return None
    kind, _, inner = text[5:].partition(": ")
    return read_coefficients(kind, inner) if is_coefficient_kind(kind) else None
