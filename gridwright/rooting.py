"""All numbers of a field at which a poly over it is nought, however great its numbers are."""

from gridwright.dividing import bare, common, power_by, primitive
from gridwright.limits import MOST_PRIME
from gridwright.polys import Poly
from gridwright.ratios import Ratio, over_one_bottom
from gridwright.rests import Rest
from gridwright.scalars import modulus_of
from gridwright.wholes import inverse_by_whole, next_prime, raised


def roots_over_field(poly):
    """The ascending tuple of the numbers at which a poly over a field, not nought itself, is nought."""
    prime = modulus_of(poly.kind)
    if prime is None:
        return _ratio_roots(poly)
    numbers = _small_roots(poly, prime) if prime < MOST_PRIME else _great_roots(poly, prime)
    return tuple([Rest(number, prime) for number in sorted(numbers)])


def _small_roots(poly, prime):
    """The list of the numbers of all rests by a small prime at which a poly is nought."""
    return [number for number in range(prime) if not poly.at(number)]


def _great_roots(poly, prime):
    """The same by an odd prime which there is no time to go through."""
    letter = Poly(poly.kind, (0, 1))
    # Of x to the power of P, less x, just all x - c are parts, each once.
    parts = [common(power_by(letter, prime, poly) - letter, poly)]
    found, shift = [], 0
    while parts:
        found = found + [prime - part.coefficients[0].number for part in parts if part.degree == 1]
        greater = [part for part in parts if part.degree > 1]
        parts = [piece for part in greater for piece in _halved(part, letter + shift, prime)]
        shift += 1
    return [number % prime for number in found]


def _halved(poly, letter, prime):
    """The two parts of a poly, the first with those roots at which the letter is a square of a rest other than 0.

    For any two roots some letter x + shift is a square at one of them alone, as their quotient takes all values but 1.
    """
    squares = common(power_by(letter, (prime - 1) // 2, poly) - 1, poly)
    return squares, poly // squares


def _ratio_roots(poly):
    """The same over ratios: times the lead they are whole, and the roots of a whole monic poly."""
    _, tops = over_one_bottom(bare(poly).coefficients)
    wholes = primitive(Poly("whole", tuple(tops))).coefficients
    degree, lead = len(wholes) - 1, wholes[-1]
    scaled = [number * raised(1, lead, degree - 1 - k) for k, number in enumerate(wholes[:-1])]
    roots = _whole_roots(Poly("whole", tuple(scaled) + (1,)))
    return tuple([Ratio(root, lead) for root in sorted(roots)])


def _whole_roots(poly):
    """The list of the whole numbers at which a monic whole poly without square parts is nought."""
    prime = _clear_prime(poly)
    # No root is greater in size than 1 plus the greatest size of the other coefficients.
    bound = 1 + max([abs(number) for number in poly.coefficients])
    starts = [number for number in range(prime) if poly.at(number) % prime == 0]
    roots = [_lifted(poly, number, prime, bound) for number in starts]
    return [root for root in roots if poly.at(root) == 0]


def _clear_prime(poly):
    """The first prime by which a monic whole poly without square parts has none either."""
    prime = 2
    while not _is_clear_by(poly, prime):
        prime = next_prime(prime)
    return prime


def _is_clear_by(poly, prime):
    rests = Poly(f"rest {prime}", poly.coefficients)
    return common(rests, rests.slope()).degree == 0


def _lifted(poly, number, prime, bound):
    """The one number, up to the bound in size, with the rest of a root by the prime that can be a root (Hensel)."""
    place, modulus, slope = number, prime, poly.slope()
    while modulus <= 2 * bound:
        modulus = modulus * modulus
        place = (place - poly.at(place) * inverse_by_whole(slope.at(place), modulus)) % modulus
    return place - modulus if 2 * place > modulus else place
