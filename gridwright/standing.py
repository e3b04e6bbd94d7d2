"""Numbers that stand in square grids over a field, and diagonal grids to which these are alike."""

from gridwright.errors import NotRests
from gridwright.fieldgrids import check_field_square, check_number_beside
from gridwright.grids import check_grid, from_columns, one_grid
from gridwright.letters import own_poly
from gridwright.limits import MOST_PRIME
from gridwright.rooting import roots_over_field
from gridwright.scalars import modulus_of
from gridwright.solving import nought_base


def numbers_in(grid):
    """The ascending tuple of the numbers that stand in a square grid over a field, by whatever prime."""
    return roots_over_field(own_poly(grid))


def standing_numbers(grid):
    """The ascending tuple of the numbers that stand in a grid, of rests by a prime below 100."""
    check_field_square(grid)
    modulus = modulus_of(grid.kind)
    if modulus is not None and modulus >= MOST_PRIME:
        raise NotRests(grid.kind)
    return numbers_in(grid)


def less_number(grid, number):
    """A square grid less a number times the one grid."""
    return grid - one_grid(grid.kind, len(grid)) * number


def standing_base(grid, number):
    """The base of the columns that a grid makes a number times as great."""
    check_grid(grid)
    check_number_beside(grid, number)
    check_field_square(grid)
    return nought_base(less_number(grid, number))


def diagonal_turning(grid):
    """A turning grid T for which the grid times T is T times the diagonal grid of standing numbers; None if none is."""
    check_field_square(grid)
    columns = [column for number in numbers_in(grid) for column in standing_base(grid, number)]
    return from_columns(tuple(columns)) if len(columns) == len(grid) else None
