"""Determinants of rows of any kind and their side rows, without any quotient.

Minors of the first rows are led on from row to row by expanding along the next one; so are, the other way, those of the
last rows. Each stands under the ascending tuple of the places that the rows ahead take.
"""

from gridwright.kinds import nought, one
from gridwright.tables import ascending_tuples, turned_rows


def _growths(many, size):
    """All ways to put one of so many places to `size` others: these, the one, all, and whether the sign changes."""
    found = []
    for places in ascending_tuples(many, size):
        for place in range(many):
            if place not in places:
                behind = len([k for k in places if k > place])
                found.append((places, place, tuple(sorted(places + (place,))), behind % 2 == 1))
    return found


def _with_sign(number, changes):
    return -number if changes else number


def minors_of_first_rows(kind, rows):
    """For k from 0 on, under their places, all minors of the first k rows."""
    zero, many = nought(kind), len(rows[0])
    found = [{(): one(kind)}]
    for size, row in enumerate(rows):
        level = {}
        for places, place, grown, changes in _growths(many, size):
            product = row[place] * found[size][places]
            level[grown] = level.get(grown, zero) + _with_sign(product, changes)
        found.append(level)
    return found


def _minors_of_last_rows(kind, rows):
    """For k from 0 on, under the places of each minor of the first k rows, what times it stands in the determinant."""
    zero, many = nought(kind), len(rows)
    found = [{tuple(range(many)): one(kind)}]
    for size in reversed(range(many)):
        level = {}
        for places, place, grown, changes in _growths(many, size):
            product = rows[size][place] * found[-1][grown]
            level[places] = level.get(places, zero) + _with_sign(product, changes)
        found.append(level)
    return found[::-1]


def determinant(kind, rows):
    """The determinant of as many rows as places."""
    return minors_of_first_rows(kind, rows)[-1][tuple(range(len(rows)))]


def side_rows(kind, rows):
    """The rows of the side grid of as many rows as places."""
    zero, many = nought(kind), len(rows)
    above, below = minors_of_first_rows(kind, rows), _minors_of_last_rows(kind, rows)
    left_out = []
    for size in range(many):
        sums = {}
        for places, place, grown, changes in _growths(many, size):
            product = above[size][places] * below[size + 1][grown]
            sums[place] = sums.get(place, zero) + _with_sign(product, changes)
        left_out.append(tuple([sums[place] for place in range(many)]))
    return turned_rows(left_out)
