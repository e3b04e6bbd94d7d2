"""Inverses of rows of any kind."""

from gridwright.expanding import determinant, side_rows
from gridwright.kinds import inverse_or_none, is_field
from gridwright.stepping import led_to_stairs
from gridwright.tables import one_rows, row_times, rows_beside


def inverse_rows(kind, rows):
    """The rows of the inverse of as many rows as places; None if there is none of the kind."""
    if is_field(kind):
        return _inverse_by_steps(kind, rows)
    inverse = inverse_or_none(determinant(kind, rows))
    return None if inverse is None else tuple([row_times(row, inverse) for row in side_rows(kind, rows)])


def _inverse_by_steps(kind, rows):
    """The same over a field: the steps that lead to the one grid lead this to the inverse."""
    size = len(rows)
    stair, places = led_to_stairs(rows_beside(rows, one_rows(kind, size)), size)
    return tuple([row[size:] for row in stair]) if len(places) == size else None
