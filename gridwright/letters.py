"""Letter grids and own polys, and polys at grids and on columns."""

from gridwright.checks import (
    check_alike_kinds, check_as_long, check_poly, check_square, check_wholes_or_fields,
)
from gridwright.columns import check_column
from gridwright.grids import Grid, check_grid, one_grid
from gridwright.kinds import nought, one
from gridwright.polys import Poly
from gridwright.tables import sum_of_products, sums_by_rows


def _check_whole_or_field(grid):
    check_grid(grid)
    check_wholes_or_fields((grid,))
    check_square(grid)


def letter_grid(grid):
    """The grid of polys with x less the entry at (i, i), and the opposites of the other entries."""
    _check_whole_or_field(grid)
    return Grid(tuple([_letter_row(grid.kind, row, k) for k, row in enumerate(grid.rows)]))


def _letter_row(kind, row, k):
    return tuple([Poly(kind, (-entry, 1 if place == k else 0)) for place, entry in enumerate(row)])


def poly_at(poly, grid):
    """The grid that comes of a poly if a square grid stands in the place of x."""
    check_poly(poly)
    check_grid(grid)
    check_alike_kinds((poly, grid))
    check_square(grid)
    unit = one_grid(grid.kind, len(grid))
    total = unit - unit
    for coefficient in poly.coefficients[::-1]:
        total = total * grid + unit * coefficient
    return total


def poly_on(poly, grid, column):
    """A poly at a square grid, times a column."""
    check_poly(poly)
    check_grid(grid)
    check_column(column)
    check_alike_kinds((poly, grid, column))
    check_square(grid)
    check_as_long(grid, column)
    total = column - column
    for coefficient in poly.coefficients[::-1]:
        total = grid * total + column * coefficient
    return total


def own_poly(grid):
    """The determinant of the letter grid."""
    _check_whole_or_field(grid)
    return Poly(grid.kind, tuple(_own_numbers(grid.kind, grid.rows)[::-1]))


def diagonal_sums(grid):
    """The tuple of the sums of all minors of the sizes from 1 on with the same rows and places."""
    check_grid(grid)
    check_square(grid)
    numbers = _own_numbers(grid.kind, grid.rows)
    return tuple([-number if size % 2 == 1 else number for size, number in enumerate(numbers)][1:])


def _own_numbers(kind, rows):
    """The list of the coefficients of the determinant of x less rows of any kind, the highest first.

    From each leading block to the next one no quotient is needed (Samuelson 1942, Berkowitz 1984).
    """
    numbers = [one(kind)]
    for size in range(len(rows)):
        steps = _steps_to(kind, rows, size)
        numbers = [_crossing_sum(nought(kind), numbers, steps[at::-1]) for at in range(size + 2)]
    return numbers


def _crossing_sum(zero, numbers, steps):
    """The sum of the products of as many numbers and steps as stand side by side."""
    many = min(len(numbers), len(steps))
    return sum_of_products(zero, numbers[:many], steps[:many])


def _steps_to(kind, rows, size):
    """1, the opposite of the entry behind the leading block of a size, and those of all ways from it over the block."""
    block, walk = [row[:size] for row in rows[:size]], [row[size] for row in rows[:size]]
    steps = [one(kind), -rows[size][size]]
    for _ in range(size):
        steps.append(-sum_of_products(nought(kind), rows[size][:size], walk))
        walk = sums_by_rows(kind, block, walk)
    return steps
