"""What grids over a field are looked at for, in many functions."""

from gridwright.checks import check_alike_kinds, check_fields, check_same_shape, check_square
from gridwright.errors import InvalidNumber
from gridwright.grids import check_grid
from gridwright.kinds import number_in


def check_field_grid(grid):
    """That a value is a grid over a field."""
    check_grid(grid)
    check_fields((grid,))


def check_field_square(grid):
    """That a value is a square grid over a field."""
    check_field_grid(grid)
    check_square(grid)


def check_field_squares(grid, other):
    """That two values are square grids over one field and of one shape."""
    check_grid(grid)
    check_grid(other)
    check_fields((grid, other))
    check_alike_kinds((grid, other))
    check_square(grid)
    check_square(other)
    check_same_shape(grid, other)


def check_number_beside(grid, number):
    """That a value is a number of a grid's kind, or a whole one."""
    if number_in(grid.kind, number) is None:
        raise InvalidNumber(number)
