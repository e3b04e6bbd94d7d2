"""Rows of whole numbers, or of polys over a field, led to whole stairs by steps that can be taken back.

Both kinds of numbers are divided with rest, and what two of them share is a sum of their multiples. A base is a dict:
under each place of a pivot, ascending, the row whose first number that is not nought stands there. Pivots are above 0,
or monic; what stands above one is a rest by it.
"""

from gridwright.dividing import bezout
from gridwright.kinds import nought, unit_inverse
from gridwright.tables import row_less, row_sum, row_times


def _whole_combination(number, other):
    """The greatest common divisor G of two whole numbers, with U, V for which U * number + V * other is G."""
    upper, lower = (number, 1, 0), (other, 0, 1)
    while lower[0] != 0:
        upper, lower = lower, row_less(upper, lower, upper[0] // lower[0])
    return row_times(upper, -1) if upper[0] < 0 else upper


def combination(kind, number, other):
    """The greatest common part G of two numbers of the kind, with U, V for which U * number + V * other is G."""
    return _whole_combination(number, other) if kind == "whole" else bezout(number, other)


def _made_plain(kind, row, place):
    """A row times the unit that makes its number at the place one above 0, or monic."""
    if kind == "whole":
        return row if row[place] > 0 else row_times(row, -1)
    lead = row[place].lead
    return row_times(row, unit_inverse(lead))


def lowered(row, base, start):
    """A row less what of the base makes its numbers at the places of pivots, from a start on, rests by these."""
    left = row
    for place in base:
        if place >= start:
            times = left[place] // base[place][place]
            if times:
                left = row_less(left, base[place], times)
    return left


def _met(kind, pivot, row, place):
    """A pivot's row and another one, led together to a row with what their numbers share there and to one with 0."""
    quotient = row[place] // pivot[place]
    if quotient * pivot[place] == row[place]:
        return pivot, row_less(row, pivot, quotient)
    shared, times, others = combination(kind, pivot[place], row[place])
    above = row_sum(row_times(pivot, times), row_times(row, others))
    below = row_less(row_times(row, pivot[place] // shared), pivot, row[place] // shared)
    return above, below


def _in_order(base):
    """The base with its places ascending, each row lowered by those behind it."""
    behind = {}
    for place in sorted(list(base))[::-1]:
        found = {place: lowered(base[place], behind, place + 1)}
        for later in behind:
            found[later] = behind[later]
        behind = found
    return behind


def _with_row(kind, base, row):
    """The base with a row more."""
    found = {}
    for place in base:
        found[place] = base[place]
    left = row
    for place in range(len(row)):
        if left[place]:
            if place not in found:
                found[place] = _made_plain(kind, left, place)
                return _in_order(found)
            above, below = _met(kind, found[place], left, place)
            # Without being lowered at once the numbers further on would grow with each row.
            found[place] = lowered(above, found, place + 1)
            left = lowered(below, found, place + 1)
    return _in_order(found)


def base_by_places(kind, rows):
    """The base to which the steps lead rows; it is the same for all rows of which the same sums are made."""
    base = {}
    for row in rows:
        base = _with_row(kind, base, row)
    return base


def rows_of(base):
    """The tuple of the base's rows."""
    return tuple(list(base.values()))


def base_behind(base, width):
    """Of the rows that are nought at the first places, so many as the width, what stands behind these, as a base."""
    found = {}
    for place in base:
        if place >= width:
            found[place - width] = base[place][width:]
    return found


def stair_rows(kind, rows):
    """The rows of the stairs to which rows are led, as many as they, those of noughts last."""
    width = len(rows[0])
    found = rows_of(base_by_places(kind, rows))
    nothing = tuple([nought(kind) for _ in range(width)])
    return found + tuple([nothing for _ in range(len(rows) - len(found))])
