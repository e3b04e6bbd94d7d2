"""Runs of numbers of a field, and the rules that they keep."""

from gridwright.checks import check_between, check_poly
from gridwright.errors import InvalidRun, NotAField, NotARule, NotMonic, TooMany, Unlike
from gridwright.grids import Grid
from gridwright.kinds import check_kind, is_field, nought, number_in, one, unit_inverse
from gridwright.limits import MOST_RUN, MOST_SIDE
from gridwright.polys import Poly
from gridwright.stepping import barring
from gridwright.tables import sum_of_products

_MOST_MORE = 200


def run_numbers(kind, run):
    """The numbers of a run over a field, which is looked at, led to its kind."""
    check_kind(kind)
    if not is_field(kind):
        raise NotAField(kind)
    if not isinstance(run, tuple) or not run:
        raise InvalidRun(None)
    numbers = [number_in(kind, value) for value in run[:MOST_RUN]]
    for index, number in enumerate(numbers):
        if number is None:
            raise InvalidRun(index)
    if len(run) > MOST_RUN:
        raise InvalidRun(MOST_RUN)
    return tuple(numbers)


def check_rule(kind, rule):
    """That a value is a monic poly over a kind."""
    check_poly(rule)
    if rule.kind != kind:
        raise Unlike(kind, rule.kind)
    if rule.lead != one(kind):
        raise NotMonic(rule)


def _left_over(rule, numbers, index):
    """What a number at an index, from the degree of a monic poly on, is more than this makes it as a rule."""
    return sum_of_products(nought(rule.kind), rule.coefficients, numbers[index - rule.degree:index + 1])


def keeps_rule(numbers, rule):
    """Whether a monic poly is a rule of numbers of its kind."""
    return not any([bool(_left_over(rule, numbers, index)) for index in range(rule.degree, len(numbers))])


def is_rule(kind, run, rule):
    """Whether a monic poly is a rule of a run."""
    numbers = run_numbers(kind, run)
    check_rule(kind, rule)
    return keeps_rule(numbers, rule)


def _raised_by(poly, exponent):
    """A poly times x to the power of an exponent."""
    return Poly(poly.kind, (0,) * exponent + poly.coefficients)


def _least_of(kind, numbers):
    """A rule of least degree of a run's numbers.

    Where a rule ends to hold, it is mended by the one that ended to hold before the last change of degree, and by what
    was left over there (Massey 1969).
    """
    rule = earlier = Poly(kind, (1,))
    over = one(kind)
    for index in range(len(numbers)):
        missing = _left_over(rule, numbers, index)
        if missing:
            other_degree = index + 1 - rule.degree
            degree = max(rule.degree, other_degree)
            mending = _raised_by(earlier, degree - other_degree) * (missing * unit_inverse(over))
            mended = _raised_by(rule, degree - rule.degree) - mending
            if degree > rule.degree:
                earlier, over = rule, missing
            rule = mended
    return rule


def reach(kind, run):
    """The least degree of a run's rules."""
    return least_rule(kind, run).degree


def least_rule(kind, run):
    """A rule of least degree of a run."""
    return _least_of(kind, run_numbers(kind, run))


def is_only(kind, run):
    """Whether the rule of least degree is the only one of its degree."""
    return 2 * reach(kind, run) <= len(run)


def rule_of(kind, run, size):
    """A rule of a degree; None if there is none."""
    numbers = run_numbers(kind, run)
    check_between(size, 0, MOST_RUN)
    rule = _least_of(kind, numbers)
    # A rule times x holds from one index later on.
    return _raised_by(rule, size - rule.degree) if rule.degree <= size else None


def run_bar(kind, run, size):
    """Numbers that show that a run has no rule of a degree; None if there is one."""
    numbers = run_numbers(kind, run)
    check_between(size, 0, MOST_RUN)
    if size >= len(numbers):
        return None
    rows = [numbers[index:index + size] for index in range(len(numbers) - size)]
    return barring(kind, rows, numbers[size:])


def run_table(kind, run, height):
    """The grid of a height with the number of a run at the index i + j at the entry (i, j), up to the last one."""
    numbers = run_numbers(kind, run)
    check_between(height, 1, len(numbers))
    width = len(numbers) + 1 - height
    if max(height, width) > MOST_SIDE:
        raise TooMany(max(height, width))
    return Grid(tuple([numbers[index:index + width] for index in range(height)]))


def gone_on(kind, run, rule, many):
    """A run with so many numbers more by a rule."""
    numbers = run_numbers(kind, run)
    check_rule(kind, rule)
    check_between(many, 0, _MOST_MORE)
    if rule.degree > len(numbers) or not keeps_rule(numbers, rule):
        raise NotARule(rule)
    for _ in range(many):
        # With nought in its place what is left over is what the next number lacks.
        index = len(numbers)
        numbers = numbers + (-_left_over(rule, numbers + (nought(kind),), index),)
    return numbers
