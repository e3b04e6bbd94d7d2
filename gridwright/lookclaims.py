"""Claims about looks at a hidden grid, and which papers show them."""

from gridwright.columns import Column, column_or_none, dot
from gridwright.grids import grid_or_none
from gridwright.kinds import is_field, nought, number_or_none
from gridwright.limits import MOST_LOOKS
from gridwright.proving import are_texts, has_shape, is_column


def _looks_or_none(texts):
    """The list of pairs of columns over one field with these texts; None if they are no looks at one grid."""
    if not isinstance(texts, tuple) or not 1 <= len(texts) <= MOST_LOOKS:
        return None
    if not all([are_texts(pair, 2) for pair in texts]):
        return None
    pairs = [(column_or_none(x), column_or_none(y)) for x, y in texts]
    first, second = pairs[0]
    if first is None or second is None or not is_field(first.kind):
        return None
    kind, width, height = first.kind, len(first), len(second)
    fitting = all([is_column(x, kind, width) and is_column(y, kind, height) for x, y in pairs])
    return pairs if fitting else None


def _sums(pairs, texts):
    """The pair of what numbers with these texts make of the looked x and of the y; None if they are no such numbers."""
    if not are_texts(texts, len(pairs)):
        return None
    x, y = pairs[0]
    numbers = [number_or_none(x.kind, text) for text in texts]
    if any([number is None for number in numbers]):
        return None
    total, seen = Column((nought(x.kind),) * len(x)), Column((nought(x.kind),) * len(y))
    for k, number in enumerate(numbers):
        total, seen = total + pairs[k][0] * number, seen + pairs[k][1] * number
    return total, seen


def shows_sure(claim, paper):
    """Whether a paper are numbers by which looks add up to what a column is led to."""
    pairs, column, found = _looks_or_none(claim[1]), column_or_none(claim[2]), column_or_none(claim[3])
    if pairs is None or column is None or found is None:
        return False
    sums = _sums(pairs, paper)
    return sums is not None and sums[0] == column and sums[1] == found


def shows_quarrel(claim, paper):
    """Whether a paper are the numbers of a quarrel."""
    pairs = _looks_or_none(claim[1])
    sums = None if pairs is None else _sums(pairs, paper)
    return sums is not None and not sums[0] and bool(sums[1])


def shows_open(claim, paper):
    """Whether a paper is a grid that fits, and a row that may be added to it, which tells on a column."""
    pairs, column = _looks_or_none(claim[1]), column_or_none(claim[2])
    if pairs is None or not is_column(column, pairs[0][0].kind, len(pairs[0][0])) or not are_texts(paper, 2):
        return False
    grid, row = grid_or_none(paper[0]), column_or_none(paper[1])
    kind, width = column.kind, len(column)
    if not has_shape(grid, kind, (len(pairs[0][1]), width)) or not is_column(row, kind, width):
        return False
    fitting = all([grid * x == y and not dot(row, x) for x, y in pairs])
    return fitting and bool(dot(row, column))


_LENGTHS = {"sure": 4, "open": 3, "quarrel": 2}
_SHOWN_BY = {"sure": shows_sure, "open": shows_open, "quarrel": shows_quarrel}


def is_shown_of_looks(claim, paper):
    """Whether a tuple that begins with a string is a claim about looks, and a paper shows it."""
    if claim[0] not in _SHOWN_BY or len(claim) != _LENGTHS[claim[0]]:
        return False
    shows = _SHOWN_BY[claim[0]]
    return shows(claim, paper)
