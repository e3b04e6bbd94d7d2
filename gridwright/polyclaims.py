"""Claims about polys and runs, and which papers show them."""

from gridwright.dividing import power_by
from gridwright.kinds import is_field, nought, number_or_none, one
from gridwright.limits import MOST_RUN
from gridwright.polys import Poly, read_poly
from gridwright.proving import are_texts
from gridwright.runs import keeps_rule
from gridwright.scalars import modulus_of
from gridwright.tables import sum_of_products
from gridwright.wholes import primes_of


def _polys_or_none(texts, many, kind):
    """The list of so many polys over a kind with these texts; None if they are not such, or not as many."""
    if not are_texts(texts, many):
        return None
    polys = [read_poly(text) for text in texts]
    return None if any([poly is None or poly.kind != kind for poly in polys]) else polys


def _field_poly_or_none(text):
    """The poly over a field with this text, which may be any value; None if there is none."""
    poly = read_poly(text)
    return poly if poly is not None and is_field(poly.kind) else None


def shows_common(claim, paper):
    """Whether a paper shows that a monic poly is a part of two others, and a sum of multiples of them."""
    shared = _field_poly_or_none(claim[3])
    if shared is None or shared.lead != one(shared.kind):
        return False
    told, polys = _polys_or_none(claim[1:3], 2, shared.kind), _polys_or_none(paper, 4, shared.kind)
    if told is None or polys is None:
        return False
    poly, other = told
    part, other_part, times, other_times = polys
    if part * shared != poly or other_part * shared != other:
        return False
    return times * poly + other_times * other == shared


def shows_parted(claim, paper):
    """Whether a paper are two polys of less degree, none a number, whose product a poly over a field is."""
    poly = _field_poly_or_none(claim[1])
    polys = None if poly is None else _polys_or_none(paper, 2, poly.kind)
    if polys is None or not poly:
        return False
    return polys[0].degree > 0 and polys[1].degree > 0 and polys[0] * polys[1] == poly


def shows_single(claim, paper):
    """Whether a paper shows that a poly by a prime is single."""
    poly = _field_poly_or_none(claim[1])
    if poly is None or modulus_of(poly.kind) is None or poly.degree < 1 or not isinstance(paper, tuple):
        return False
    primes = primes_of(poly.degree)
    pairs = [_polys_or_none(pair, 2, poly.kind) for pair in paper]
    if len(pairs) != len(primes) or any([pair is None for pair in pairs]):
        return False
    rests = power_rests(poly)
    for k, prime in enumerate(primes):
        times, other_times = pairs[k]
        if times * poly + other_times * rests[poly.degree // prime] != Poly(poly.kind, (1,)):
            return False
    return not rests[poly.degree]


def power_rests(poly):
    """For k from 0 to the degree what x to the power of P ** k, less x, leaves by a poly."""
    letter = Poly(poly.kind, (0, 1))
    power = letter % poly
    found = [(power - letter) % poly]
    for _ in range(poly.degree):
        power = power_by(power, modulus_of(poly.kind), poly)
        found.append((power - letter) % poly)
    return found


def _numbers_or_none(kind, texts):
    """The tuple of the numbers of a kind with these texts; None if they are not such, or no tuple."""
    if not isinstance(texts, tuple) or not are_texts(texts, len(texts)):
        return None
    numbers = [number_or_none(kind, text) for text in texts]
    return None if any([number is None for number in numbers]) else tuple(numbers)


def shows_least_rule(claim, paper):
    """Whether a poly is a rule of a run, and a paper a run bar for the degree less by 1."""
    kind, poly = claim[1], read_poly(claim[3])
    if not is_field(kind) or poly is None or poly.kind != kind or poly.degree < 0 or poly.lead != one(kind):
        return False
    numbers, bar = _numbers_or_none(kind, claim[2]), _numbers_or_none(kind, paper)
    if numbers is None or bar is None or not 1 <= len(numbers) <= MOST_RUN or not keeps_rule(numbers, poly):
        return False
    if poly.degree == 0:
        return len(bar) == 0
    return _is_run_bar(kind, numbers, poly.degree - 1, bar)


def _is_run_bar(kind, numbers, degree, bar):
    """Whether numbers make noughts with those of a run from each index below a degree on, and not from it on."""
    if len(bar) == 0 or len(bar) != len(numbers) - degree:
        return False
    sums = [sum_of_products(nought(kind), bar, numbers[start:start + len(bar)]) for start in range(degree + 1)]
    return not any([bool(number) for number in sums[:-1]]) and bool(sums[-1])


_LENGTHS = {"common": 4, "parted": 2, "single": 2, "least rule": 4}
_SHOWN_BY = {
    "common": shows_common, "parted": shows_parted, "single": shows_single, "least rule": shows_least_rule,
}


def is_shown_of_polys(claim, paper):
    """Whether a tuple that begins with a string is a claim about polys or runs, and a paper shows it."""
    if claim[0] not in _SHOWN_BY or len(claim) != _LENGTHS[claim[0]]:
        return False
    shows = _SHOWN_BY[claim[0]]
    return shows(claim, paper)
