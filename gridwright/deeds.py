"""Deeds at rows and at columns, their ways back, and the turning grids that they make."""

from gridwright.checks import check_between, check_square
from gridwright.doing import back_of, check_log, deed_or_none, done_columns, done_rows
from gridwright.errors import InvalidDeed, NoInverse, NotAField
from gridwright.grids import Grid, check_grid
from gridwright.inverting import inverse_rows
from gridwright.kinds import check_kind, coefficient_kind, is_field
from gridwright.limits import MOST_SIDE
from gridwright.tables import one_rows
from gridwright.unwinding import deeds_to_one


def is_deed(kind, size, value):
    """Whether a value is a deed for a kind and a size."""
    check_kind(kind)
    check_between(size, 1, MOST_SIDE)
    return deed_or_none(kind, size, value) is not None


def _checked_deed(kind, size, deed):
    """The deed that a value is, its number led to the kind."""
    found = deed_or_none(kind, size, deed)
    if found is None:
        raise InvalidDeed(deed)
    return found


def done(grid, deed):
    """A grid with a deed done at its rows."""
    check_grid(grid)
    return Grid(done_rows(grid.rows, _checked_deed(grid.kind, grid.shape[0], deed)))


def done_at_columns(grid, deed):
    """A grid with a deed done at its columns."""
    check_grid(grid)
    return Grid(done_columns(grid.rows, _checked_deed(grid.kind, grid.shape[1], deed)))


def way_back(kind, deed):
    """The deed that takes one back."""
    check_kind(kind)
    return back_of(_checked_deed(kind, MOST_SIDE, deed))


def turning_of(kind, size, deeds):
    """The turning grid of deeds one after the other."""
    check_kind(kind)
    check_between(size, 1, MOST_SIDE)
    rows = one_rows(kind, size)
    for deed in check_log(kind, size, deeds):
        rows = done_rows(rows, deed)
    return Grid(rows)


def deeds_of(grid):
    """A tuple of deeds that have a turning grid, over a field, whole, or of polys over a field."""
    check_grid(grid)
    if grid.kind != "whole" and not is_field(grid.kind) and not is_field(coefficient_kind(grid.kind)):
        raise NotAField(grid.kind)
    check_square(grid)
    if inverse_rows(grid.kind, grid.rows) is None:
        raise NoInverse()
    return tuple([back_of(deed) for deed in deeds_to_one(grid.kind, grid.rows)[::-1]])
