"""Rows of whole numbers, or of polys over a field, led to core numbers by steps at rows and at places."""

from gridwright.reducing import combination, stair_rows
from gridwright.tables import are_noughts, one_rows, row_less, row_sum, row_times, rows_beside, turned_rows


def _led_with(kind, rows, behind):
    """The stairs to which rows are led, and what becomes on the way of the rows behind them."""
    width = len(rows[0])
    stair = stair_rows(kind, rows_beside(rows, behind))
    return tuple([row[:width] for row in stair]), tuple([row[width:] for row in stair])


def _are_diagonal(rows):
    """Whether all entries (i, j) with i and j unlike are nought."""
    return all([are_noughts(row[:k] + row[k + 1:]) for k, row in enumerate(rows)])


def _straightened(kind, rows, left, right):
    """The rows led to noughts off the entries (i, i), and what becomes of others behind the rows and the places.

    As long as a number shares less than itself with the others of its place or its row, it is led to what it shares; so
    there is an end.
    """
    straight, behind, below = rows, left, right
    is_straight = False
    while not is_straight:
        straight, behind = _led_with(kind, straight, behind)
        turned, below = _led_with(kind, turned_rows(straight), below)
        straight = turned_rows(turned)
        is_straight = _are_diagonal(straight)
    return straight, behind, below


def _put(values, at, pair):
    """The values with a pair of others in the places of two of them."""
    found = list(values)
    found[at[0]], found[at[1]] = pair
    return tuple(found)


def _shared_out(kind, numbers, left, right, at):
    """The numbers with what two of them share in the one's place, and their least common multiple in the other's."""
    number, other = numbers[at[0]], numbers[at[1]]
    shared, times, others = combination(kind, number, other)
    part, other_part = number // shared, other // shared
    row, other_row = left[at[0]], left[at[1]]
    above, below = row_sum(row_times(row, times), row_times(other_row, others)), row_times(other_row, part)
    rows = (above, row_less(below, row, other_part))
    row, other_row = right[at[0]], right[at[1]]
    columns = (row_sum(row, other_row), row_less(row_times(other_row, times * part), row, others * other_part))
    return _put(numbers, at, (shared, part * other)), _put(left, at, rows), _put(right, at, columns)


def _led_to_cores(kind, rows, left, right):
    """The tuple of the core numbers, and what becomes of the rows behind the rows and behind the places."""
    straight, behind, below = _straightened(kind, rows, left, right)
    numbers = tuple([row[k] for k, row in enumerate(straight[:len(rows[0])]) if row[k]])
    for second in range(1, len(numbers)):
        for first in range(second):
            if numbers[second] % numbers[first]:
                numbers, behind, below = _shared_out(kind, numbers, behind, below, (first, second))
    return numbers, behind, below


def cores_of(kind, rows):
    """The tuple of the core numbers of rows."""
    numbers, _, _ = _led_to_cores(kind, rows, [()] * len(rows), [()] * len(rows[0]))
    return numbers


def core_turnings_of(kind, rows):
    """The rows of two turning grids that lead rows from the left and from the right to their core grid."""
    _, left, right = _led_to_cores(kind, rows, one_rows(kind, len(rows)), one_rows(kind, len(rows[0])))
    return left, turned_rows(right)
