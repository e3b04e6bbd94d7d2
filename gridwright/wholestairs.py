"""Whole stair forms of whole grids."""

from gridwright.checks import check_wholes
from gridwright.grids import Grid, check_grid
from gridwright.reducing import base_by_places, rows_of, stair_rows
from gridwright.tables import one_rows, rows_beside


def _check_whole_grid(grid):
    check_grid(grid)
    check_wholes((grid,))


def whole_stair(grid):
    """The one grid in whole stairs to which turning grids lead from the left."""
    _check_whole_grid(grid)
    return Grid(stair_rows("whole", grid.rows))


def whole_turning(grid):
    """A turning grid that leads a grid from the left to its whole stair form."""
    _check_whole_grid(grid)
    rows = rows_of(base_by_places("whole", rows_beside(grid.rows, one_rows("whole", len(grid)))))
    return Grid(tuple([row[grid.shape[1]:] for row in rows]))


def is_whole_stair(grid):
    """Whether a grid is its own whole stair form."""
    return grid == whole_stair(grid)


def whole_rank(grid):
    """The number of the pivots."""
    _check_whole_grid(grid)
    return len(base_by_places("whole", grid.rows))
