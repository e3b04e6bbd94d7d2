"""Spans of columns over a field."""

from gridwright.checks import check_alike_kinds, check_fields, check_same_shape
from gridwright.columns import Column, check_column, check_columns
from gridwright.stepping import base_rows, led_to_stairs, nought_rows, solved
from gridwright.tables import turned_rows


def _check_field_columns(columns):
    check_columns(columns)
    check_fields((columns[0],))


def _check_pair(columns, others):
    """That these are two tuples of columns over one field and of one size."""
    check_columns(columns)
    check_columns(others)
    check_fields((columns[0], others[0]))
    check_alike_kinds((columns[0], others[0]))
    check_same_shape(columns[0], others[0])


def _rows_of(columns):
    """The rows of the grid, which may only be thought of, that has these columns as rows."""
    return tuple([column.entries for column in columns])


def _as_columns(rows):
    return tuple([Column(row) for row in rows])


def base_of(columns):
    """The base of the span of some columns."""
    _check_field_columns(columns)
    return _as_columns(base_rows(_rows_of(columns), len(columns[0])))


def is_free(columns):
    """Whether only noughts as numbers add the columns up to nought."""
    return len(base_of(columns)) == len(columns)


def in_span(columns, column):
    """Numbers with which the columns add up to a column; None if there are none."""
    check_columns(columns)
    check_column(column)
    check_fields((columns[0], column))
    check_alike_kinds((columns[0], column))
    check_same_shape(columns[0], column)
    return solved(column.kind, turned_rows(_rows_of(columns)), column.entries)


def relation(columns):
    """Numbers, not all nought, with which the columns add up to nought; None if they are free."""
    _check_field_columns(columns)
    found = nought_rows(columns[0].kind, turned_rows(_rows_of(columns)), len(columns))
    return found[0] if found else None


def chosen(columns):
    """The ascending tuple of the indexes of the columns that those ahead do not span."""
    _check_field_columns(columns)
    _, places = led_to_stairs(turned_rows(_rows_of(columns)), len(columns))
    return places


def sum_base(columns, others):
    """The base of all sums of a column of one span and one of another one."""
    _check_pair(columns, others)
    return base_of(columns + others)


def meet_base(columns, others):
    """The base of all columns that lie in both spans."""
    _check_pair(columns, others)
    kind, size = columns[0].kind, len(columns[0])
    # A column is in a span exactly if its products with all bars of the span add up to nought.
    bars = nought_rows(kind, _rows_of(columns), size) + nought_rows(kind, _rows_of(others), size)
    return _as_columns(base_rows(nought_rows(kind, bars, size), size))


def bar_base(columns):
    """The base of all columns whose products with each of these add up to nought."""
    _check_field_columns(columns)
    size = len(columns[0])
    return _as_columns(base_rows(nought_rows(columns[0].kind, _rows_of(columns), size), size))
