"""Whole numbers from 1 on parted into powers of primes, also great ones."""

from math import gcd, isqrt

_SMALL = 1000
# Below this bound each number that is no prime fails with one of these bases (Sorenson, Webster 2015).
_BOUND = 3317044064679887385961981
_BASES = (2, 3, 5, 7, 11, 13, 17, 19, 23, 29, 31, 37, 41)


def prime_powers_of(number):
    """The ascending list of pairs of the primes that divide a whole number from 1 on, and of how often each does."""
    found = []
    for prime in _primes_in(number):
        left, many = number, 0
        while left % prime == 0:
            left = left // prime
            many += 1
        found.append((prime, many))
    return found


def _primes_in(number):
    """The ascending list of the primes that divide a whole number from 1 on."""
    found = []
    left = number
    for divisor in range(2, _SMALL):
        if left % divisor == 0:
            found.append(divisor)
        while left % divisor == 0:
            left = left // divisor
    parts = []
    if left > 1:
        parts.append(left)
    while parts:
        part = parts.pop()
        if _is_great_prime(part):
            if part not in found:
                found.append(part)
        else:
            divisor = _divisor_of(part)
            parts.append(divisor)
            parts.append(part // divisor)
    return sorted(found)


def _raised_by(base, exponent, modulus):
    """The rest of a power by a modulus."""
    total, square, left = 1, base % modulus, exponent
    while left > 0:
        if left % 2 == 1:
            total = total * square % modulus
        square = square * square % modulus
        left = left // 2
    return total


def _passes(number, base):
    """Whether a number behaves with a base as an odd prime does: a root of 1 is 1 or -1 (Miller, Rabin)."""
    odd, halvings = number - 1, 0
    while odd % 2 == 0:
        odd = odd // 2
        halvings += 1
    power = _raised_by(base, odd, number)
    if power in (1, number - 1):
        return True
    for _ in range(halvings - 1):
        power = power * power % number
        if power == number - 1:
            return True
    return False


def _is_great_prime(number):
    """Whether a number without divisors from 2 to the greatest small one is a prime."""
    if number < _SMALL * _SMALL:
        return True
    if not all([_passes(number, base) for base in _BASES]):
        return False
    return number < _BOUND or _has_root_of_full_order(number)


def _has_root_of_full_order(number):
    """Whether some power of a base comes to 1 only at the number less 1, which shows that it is a prime (Lucas)."""
    for prime in _primes_in(number - 1):
        exponent, base = (number - 1) // prime, 2
        while _raised_by(base, exponent, number) == 1:
            base += 1
        if _raised_by(base, number - 1, number) != 1:
            return False
    return True


def _divisor_of(number):
    """A divisor, neither 1 nor the number, of one that is no prime and has no small divisor."""
    root = isqrt(number)
    if root * root == number:
        return root
    step, found = 1, number
    while found == number:
        found = _divisor_by_walk(number, step)
        step += 1
    return found


def _divisor_by_walk(number, step):
    """The first divisor that shows as what two places of a walk share by it; the number itself if it shows at once.

    By a prime that divides the number the walk comes back to where it was in few steps (Pollard 1975).
    """
    slow, fast, shared = 2, 2, 1
    while shared == 1:
        slow = (slow * slow + step) % number
        fast = (fast * fast + step) % number
        fast = (fast * fast + step) % number
        shared = gcd(slow - fast, number)
    return shared
