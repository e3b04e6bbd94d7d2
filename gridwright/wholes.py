"""Whole numbers: which values are such, their texts, their primes and what they make by a modulus."""


def is_whole_number(value):
    """Whether a value is an int other than True and False."""
    return isinstance(value, int) and not isinstance(value, bool)


def lies_between(value, low, high):
    """Whether a value is a whole number from low to high."""
    return is_whole_number(value) and low <= value <= high


def _are_figures(text):
    """Whether a text is that of a whole number from 0 on, without needless noughts."""
    if not text.isascii() or not text.isdigit():
        return False
    return text == "0" or not text.startswith("0")


def read_whole(text):
    """The whole number with this text; None if there is none."""
    figures = text[1:] if text.startswith("-") else text
    if not _are_figures(figures) or text == "-0":
        return None
    return int(text)


def primes_of(number):
    """The ascending list of the primes that divide a whole number from 1 on."""
    found = []
    left, factor = number, 2
    while factor * factor <= left:
        if left % factor == 0:
            found.append(factor)
        while left % factor == 0:
            left = left // factor
        factor += 1
    if left > 1:
        found.append(left)
    return found


def is_prime(number):
    """Whether a whole number from 0 on is a prime."""
    if number % 2 == 0:
        return number == 2
    factor = 3
    while factor * factor <= number:
        if number % factor == 0:
            return False
        factor += 2
    return number > 1


def next_prime(prime):
    """The least prime above one."""
    found = prime + 1
    while not is_prime(found):
        found += 1
    return found


def inverse_by_whole(number, modulus):
    """What makes 1 with the number by a modulus from 2 on; None if nothing does."""
    upper, lower = modulus, number % modulus
    times, next_times = 0, 1
    while lower > 0:
        quotient = upper // lower
        upper, lower = lower, upper - quotient * lower
        times, next_times = next_times, times - quotient * next_times
    return times % modulus if upper == 1 else None


def raised(start, base, exponent):
    """The base to the power of an exponent from 0 on, times the start; of any values that can be multiplied."""
    total, square, left = start, base, exponent
    while left > 0:
        if left % 2 == 1:
            total = total * square
        left = left // 2
        if left > 0:
            square = square * square
    return total
