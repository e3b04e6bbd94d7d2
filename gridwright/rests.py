"""Rests by a modulus."""

from math import gcd

from gridwright.errors import InvalidNumber, NotANumber, NotApart, NotAUnit, TooMany, Unlike
from gridwright.limits import MOST_FAR, MOST_MODULUS
from gridwright.wholes import inverse_by_whole, is_whole_number, lies_between, primes_of, raised


class Rest:
    """A number from 0 to one less than the modulus."""

    def __init__(self, number, modulus):
        if not is_whole_number(number):
            raise InvalidNumber(number)
        if not lies_between(modulus, 2, MOST_MODULUS):
            raise InvalidNumber(modulus)
        self.number = number % modulus
        self.modulus = modulus

    @property
    def is_unit(self):
        """Whether the rest has an inverse."""
        return gcd(self.number, self.modulus) == 1

    @property
    def text(self):
        """The figures of the number."""
        return str(self.number)

    def __eq__(self, other):
        return isinstance(other, Rest) and self.number == other.number and self.modulus == other.modulus

    def __bool__(self):
        return bool(self.number != 0)

    def __add__(self, other):
        number = _number_beside(self, other)
        if number is None:
            return NotImplemented
        return Rest(self.number + number, self.modulus)

    def __radd__(self, other):
        number = _number_beside(self, other)
        if number is None:
            return NotImplemented
        return Rest(number + self.number, self.modulus)

    def __sub__(self, other):
        number = _number_beside(self, other)
        if number is None:
            return NotImplemented
        return Rest(self.number - number, self.modulus)

    def __rsub__(self, other):
        number = _number_beside(self, other)
        if number is None:
            return NotImplemented
        return Rest(number - self.number, self.modulus)

    def __mul__(self, other):
        number = _number_beside(self, other)
        if number is None:
            return NotImplemented
        return Rest(self.number * number, self.modulus)

    def __rmul__(self, other):
        number = _number_beside(self, other)
        if number is None:
            return NotImplemented
        return Rest(number * self.number, self.modulus)

    def __pow__(self, other):
        return self.power(other)

    def __neg__(self):
        return Rest(-self.number, self.modulus)

    def power(self, exponent):
        """The rest to the power of an exponent, which may be below 0 if the rest is a unit."""
        if not lies_between(exponent, -MOST_FAR, MOST_FAR):
            raise InvalidNumber(exponent)
        base = self.inverse() if exponent < 0 else self
        return raised(Rest(1, self.modulus), base, abs(exponent))

    def inverse(self):
        """The rest that makes 1 with this one."""
        number = inverse_by_whole(self.number, self.modulus)
        if number is None:
            raise NotAUnit(self)
        return Rest(number, self.modulus)


def _number_beside(rest, other):
    """The whole number as which the other side of a sign counts beside a rest; None for what may not stand there."""
    if isinstance(other, Rest):
        if other.modulus != rest.modulus:
            raise Unlike(f"rest {rest.modulus}", f"rest {other.modulus}")
        return other.number
    if is_whole_number(other):
        return other
    return None


def order_of(number):
    """The least exponent from 1 on with which the power of a rest is 1."""
    if not isinstance(number, Rest):
        raise NotANumber(number)
    if not number.is_unit:
        raise NotAUnit(number)
    order = _count_units(number.modulus)
    for prime in primes_of(order):
        while order % prime == 0 and number.power(order // prime).number == 1:
            order = order // prime
    return order


def _count_units(modulus):
    """How many rests by the modulus are units: each of them to the power of this number is 1 (Euler)."""
    many = modulus
    for prime in primes_of(modulus):
        many = many // prime * (prime - 1)
    return many


def joined(one, other):
    """The rest by the product of both moduli that leads to both rests."""
    if not isinstance(one, Rest):
        raise NotANumber(one)
    if not isinstance(other, Rest):
        raise NotANumber(other)
    shared = gcd(one.modulus, other.modulus)
    if shared > 1:
        raise NotApart(shared)
    modulus = one.modulus * other.modulus
    if modulus > MOST_MODULUS:
        raise TooMany(modulus)
    steps = (other.number - one.number) * inverse_by_whole(one.modulus, other.modulus)
    return Rest(one.number + one.modulus * steps, modulus)
