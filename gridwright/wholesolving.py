"""Whole equations: their whole solutions, or the whole bar that shows that there is none."""

from gridwright.checks import check_same_height, check_wholes
from gridwright.columns import Column, check_column
from gridwright.grids import Grid, check_grid
from gridwright.lattices import member_bar, member_by, noughts_of, plain_member


def _check_equation(grid, column):
    """That a whole grid and a whole column make equations."""
    check_grid(grid)
    check_column(column)
    check_wholes((grid, column))
    check_same_height(grid, column)


def whole_solution(grid, column):
    """The solution with entries from 0 to one less than the noughts' pivots at their places; None if there is none."""
    _check_equation(grid, column)
    found = member_by(grid.turned, column)
    noughts = noughts_of(grid.rows, grid.shape[1])
    return found if found is None or not noughts else plain_member(Grid(noughts), found)


def whole_bar(grid, column):
    """A column of ratios that shows that there is no whole solution; None if there is one."""
    _check_equation(grid, column)
    return member_bar(grid.turned, column)


def whole_noughts(grid):
    """The plain base of all whole columns that a grid leads to nought."""
    check_grid(grid)
    check_wholes((grid,))
    return tuple([Column(row) for row in noughts_of(grid.rows, grid.shape[1])])
