"""Side grids, and the inverses that they tell."""

from gridwright.checks import check_alike_kinds, check_between, check_fields, check_square
from gridwright.columns import check_column
from gridwright.errors import NoInverse
from gridwright.expanding import determinant, side_rows
from gridwright.grids import Grid, check_grid, check_product
from gridwright.inverting import inverse_rows


def side_grid(grid):
    """The grid of the minors without one row and one place, with their signs, turned over."""
    check_grid(grid)
    check_square(grid)
    return Grid(side_rows(grid.kind, grid.rows))


def cramer(grid, column):
    """The pair of the determinant and of the column that the grid leads to the determinant times the given one."""
    check_grid(grid)
    check_column(column)
    check_alike_kinds((grid, column))
    check_square(grid)
    check_product(grid, column)
    return determinant(grid.kind, grid.rows), side_grid(grid) * column


def is_turning(grid):
    """Whether a grid is square and has an inverse of its kind."""
    check_grid(grid)
    return grid.is_square and inverse_rows(grid.kind, grid.rows) is not None


def inverse(grid):
    """The inverse of a square grid of any kind."""
    check_grid(grid)
    check_square(grid)
    rows = inverse_rows(grid.kind, grid.rows)
    if rows is None:
        raise NoInverse()
    return Grid(rows)


def rest_block(grid, size):
    """What stays of the last block when the first one, of this size, is led to the one grid and clears all below."""
    check_grid(grid)
    check_between(size, 1, len(grid) - 1)
    check_fields((grid,))
    check_square(grid)
    first = inverse_rows(grid.kind, [row[:size] for row in grid.rows[:size]])
    if first is None:
        raise NoInverse()
    behind = Grid(tuple([row[size:] for row in grid.rows[:size]]))
    under = Grid(tuple([row[:size] for row in grid.rows[size:]]))
    last = Grid(tuple([row[size:] for row in grid.rows[size:]]))
    return last - under * Grid(first) * behind
