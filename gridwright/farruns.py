"""Runs far on, and the rules of sums, of products and of numbers at each k-th index."""

from gridwright.blocks import crossed
from gridwright.checks import check_alike_kinds, check_between, check_fields, check_poly, check_rests
from gridwright.dividing import least_multiple, power_by
from gridwright.errors import InvalidRun, NoRound, NotMonic, TooMany
from gridwright.followers import follower
from gridwright.kinds import nought
from gridwright.letters import own_poly
from gridwright.limits import MOST_FAR, MOST_MODULUS, MOST_POWER, MOST_SIDE
from gridwright.polys import Poly
from gridwright.returning import round_of_letter
from gridwright.runs import check_rule, run_numbers
from gridwright.scalars import modulus_of
from gridwright.tables import sum_of_products
from gridwright.wholes import raised

_MOST_INDEX_OF_RATIOS = 1000


def far(kind, run, rule, index):
    """The number at an index of the endless run by a rule that begins so."""
    numbers = run_numbers(kind, run)
    check_rule(kind, rule)
    check_between(index, 0, _MOST_INDEX_OF_RATIOS if kind == "ratio" else MOST_FAR)
    if len(numbers) != rule.degree:
        raise InvalidRun(None)
    rest = power_by(Poly(kind, (0, 1)), index, rule).coefficients
    return sum_of_products(nought(kind), rest, numbers[:len(rest)])


def _check_monic(poly):
    """That a poly over a field is monic, of whatever degree."""
    if not poly or poly != poly.monic():
        raise NotMonic(poly)


def _check_pair(poly, other):
    """That these are two monic polys over one field."""
    check_poly(poly)
    check_poly(other)
    check_fields((poly, other))
    check_alike_kinds((poly, other))
    _check_monic(poly)
    _check_monic(other)


def sum_rule(poly, other):
    """The rule that all sums of runs by two rules keep."""
    _check_pair(poly, other)
    return least_multiple(poly, other)


def product_rule(poly, other):
    """A rule that all products, number by number, of runs by two rules keep."""
    _check_pair(poly, other)
    degree = poly.degree * other.degree
    if degree > MOST_SIDE or degree == 0:
        raise TooMany(degree)
    return own_poly(crossed(follower(poly), follower(other)))


def step_rule(poly, step):
    """A rule that the numbers at each so-many-th index of runs by a rule keep."""
    check_poly(poly)
    check_between(step, 1, MOST_POWER)
    return own_poly(follower(poly).power(step))


def rule_round(poly):
    """The least number of steps after which each run by a rule over a prime comes again."""
    check_poly(poly)
    check_rests((poly,))
    _check_monic(poly)
    if not poly.coefficients[0]:
        raise NoRound()
    number = raised(1, modulus_of(poly.kind), poly.degree)
    if number > MOST_MODULUS:
        raise TooMany(number)
    return round_of_letter(poly)
