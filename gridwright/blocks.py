"""Grids put together, and taken apart."""

from gridwright.checks import check_alike_kinds, check_between, check_sides
from gridwright.columns import Column, check_column
from gridwright.errors import InvalidGrids, InvalidIndexes, InvalidNumber, InvalidShape
from gridwright.grids import Grid, check_grid
from gridwright.kinds import nought
from gridwright.limits import MOST_SIDE
from gridwright.tables import rows_beside, turned_rows
from gridwright.wholes import lies_between


def _check_pair(grid, other):
    """That these are two grids of one kind."""
    check_grid(grid)
    check_grid(other)
    check_alike_kinds((grid, other))


def beside(grid, other):
    """The second grid behind the rows of the first one."""
    _check_pair(grid, other)
    if len(grid) != len(other):
        raise InvalidShape(grid.shape, other.shape)
    check_sides(len(grid), grid.shape[1] + other.shape[1])
    return Grid(rows_beside(grid.rows, other.rows))


def below(grid, other):
    """The second grid below the rows of the first one."""
    _check_pair(grid, other)
    if grid.shape[1] != other.shape[1]:
        raise InvalidShape(grid.shape, other.shape)
    check_sides(len(grid) + len(other), grid.shape[1])
    return Grid(grid.rows + other.rows)


def _check_grids(grids):
    """That a value is a tuple of one to eight grids of one kind."""
    if not isinstance(grids, tuple) or not grids:
        raise InvalidGrids(None)
    for index, grid in enumerate(grids):
        if index == MOST_SIDE or not isinstance(grid, Grid) or grid.kind != grids[0].kind:
            raise InvalidGrids(index)


def put_blocks(grids):
    """The grid with these from the corner on, each below and behind the one ahead, noughts elsewhere."""
    _check_grids(grids)
    width = sum([grid.shape[1] for grid in grids])
    check_sides(sum([len(grid) for grid in grids]), width)
    rows = []
    ahead = 0
    for grid in grids:
        behind = width - ahead - grid.shape[1]
        for row in grid.rows:
            rows.append(_noughts(grid.kind, ahead) + row + _noughts(grid.kind, behind))
        ahead = ahead + grid.shape[1]
    return Grid(tuple(rows))


def _noughts(kind, many):
    return tuple([nought(kind) for _ in range(many)])


def crossed(grid, other):
    """The grid that has in the place of each entry of the first one the second one times it."""
    _check_pair(grid, other)
    check_sides(len(grid) * len(other), grid.shape[1] * other.shape[1])
    return Grid(tuple([_crossed_row(row, inner) for row in grid.rows for inner in other.rows]))


def _crossed_row(row, other):
    return tuple([entry * inner for entry in row for inner in other])


def pile(grid):
    """The column of all columns, one below the other."""
    check_grid(grid)
    check_sides(grid.shape[0] * grid.shape[1], 1)
    return Column(tuple([entry for entries in turned_rows(grid.rows) for entry in entries]))


def _check_indexes(indexes, many):
    """That a value is a tuple of one to eight indexes of so many things."""
    if not isinstance(indexes, tuple) or not indexes:
        raise InvalidIndexes(None)
    for place, index in enumerate(indexes):
        if place == MOST_SIDE or not lies_between(index, 0, many - 1):
            raise InvalidIndexes(place)


def piece(grid, rows, places):
    """The grid of these rows and places, in this order."""
    check_grid(grid)
    _check_indexes(rows, grid.shape[0])
    _check_indexes(places, grid.shape[1])
    return Grid(tuple([tuple([grid.rows[k][place] for place in places]) for k in rows]))


def unpiled(column, height):
    """The grid with this many rows whose pile a column is."""
    check_column(column)
    check_between(height, 1, len(column))
    if len(column) % height != 0:
        raise InvalidNumber(height)
    width = len(column) // height
    columns = [column.entries[place * height:(place + 1) * height] for place in range(width)]
    return Grid(turned_rows(columns))
