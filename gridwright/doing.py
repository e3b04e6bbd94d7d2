"""Deeds: which values are such, and what they do to rows and to grids."""

from gridwright.errors import InvalidLog
from gridwright.grids import Grid
from gridwright.kinds import inverse_or_none, number_in, unit_inverse
from gridwright.tables import row_less, row_times, turned_rows
from gridwright.wholes import lies_between


def _are_two_indexes(size, one, other):
    """Whether two values are unlike indexes below a size."""
    return lies_between(one, 0, size - 1) and lies_between(other, 0, size - 1) and one != other


def deed_or_none(kind, size, value):
    """The deed that a value is for a kind and a size, its number led to the kind; None if it is none."""
    if not isinstance(value, tuple) or len(value) not in (3, 4) or not isinstance(value[0], str):
        return None
    if value[0] == "scale" and len(value) == 3:
        number = number_in(kind, value[2]) if lies_between(value[1], 0, size - 1) else None
        is_unit = number is not None and inverse_or_none(number) is not None
        return ("scale", value[1], number) if is_unit else None
    if not _are_two_indexes(size, value[1], value[2]):
        return None
    if value[0] == "swap" and len(value) == 3:
        return value
    if value[0] != "add" or len(value) != 4:
        return None
    number = number_in(kind, value[3])
    return None if number is None else ("add", value[1], value[2], number)


def check_log(kind, size, log):
    """The list of the deeds of a log, which is looked at, their numbers led to the kind."""
    if not isinstance(log, tuple):
        raise InvalidLog(None)
    deeds = [deed_or_none(kind, size, value) for value in log]
    for index, deed in enumerate(deeds):
        if deed is None:
            raise InvalidLog(index)
    return deeds


def done_rows(rows, deed):
    """The tuple of rows with a deed done, whose number is of their kind."""
    found = list(rows)
    i = deed[1]
    if deed[0] == "swap":
        j = deed[2]
        found[i], found[j] = rows[j], rows[i]
    elif deed[0] == "add":
        found[i] = row_less(rows[i], rows[deed[2]], -deed[3])
    else:
        found[i] = row_times(rows[i], deed[2])
    return tuple(found)


def done_columns(rows, deed):
    """The tuple of rows with a deed done at their places."""
    return turned_rows(done_rows(turned_rows(rows), deed))


def back_of(deed):
    """The deed that takes one back, whose number is of its kind."""
    if deed[0] == "add":
        return ("add", deed[1], deed[2], -deed[3])
    return ("scale", deed[1], unit_inverse(deed[2])) if deed[0] == "scale" else deed


def turned_deed(deed):
    """The deed whose turning grid is that of another one turned over."""
    return ("add", deed[2], deed[1], deed[3]) if deed[0] == "add" else deed


def turned_ahead(grid, deed):
    """The turning grid of a deed, times a grid."""
    return Grid(done_rows(grid.rows, deed))


def turned_behind(grid, deed):
    """A grid times the turning grid of a deed."""
    return Grid(done_columns(grid.rows, turned_deed(deed)))
