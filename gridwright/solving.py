"""Equations over a field: their solutions, or the bar that shows that there is none."""

from gridwright.checks import check_alike_kinds, check_fields, check_rests, check_same_height
from gridwright.columns import Column, check_column
from gridwright.errors import InvalidIndex
from gridwright.grids import Grid, check_grid
from gridwright.kinds import nought, number_of
from gridwright.scalars import modulus_of
from gridwright.stairs import free_places
from gridwright.stepping import barring, base_rows, filled_up, led_to_stairs, nought_rows, solved
from gridwright.tables import rows_beside
from gridwright.wholes import lies_between, raised


def _check_equation(grid, column):
    """That a grid and a column over a field make equations."""
    check_grid(grid)
    check_column(column)
    check_fields((grid, column))
    check_alike_kinds((grid, column))
    check_same_height(grid, column)


def _check_equation_of_rests(grid, column):
    """The same, over a field of rests."""
    check_grid(grid)
    check_column(column)
    check_rests((grid, column))
    _check_equation(grid, column)


def nought_base(grid):
    """The base of the columns that a grid leads to nought."""
    check_grid(grid)
    check_fields((grid,))
    width = grid.shape[1]
    return tuple([Column(row) for row in base_rows(nought_rows(grid.kind, grid.rows, width), width)])


def solution(grid, column):
    """The solution with noughts at all free places; None if there is none."""
    _check_equation(grid, column)
    numbers = solved(grid.kind, grid.rows, column.entries)
    return None if numbers is None else Column(numbers)


def bar(grid, column):
    """A bar whose products with the column add up to 1; None if there is a solution."""
    _check_equation(grid, column)
    numbers = barring(grid.kind, grid.rows, column.entries)
    return None if numbers is None else Column(numbers)


def solutions_number(grid, column):
    """How many solutions there are by a prime."""
    _check_equation_of_rests(grid, column)
    if solution(grid, column) is None:
        return 0
    return raised(1, modulus_of(grid.kind), len(free_places(grid)))


def solution_at(grid, column, index):
    """The solution whose numbers at the free places, the last one first, are the index's figures to the base P."""
    number = solutions_number(grid, column)
    if not lies_between(index, 0, number - 1):
        raise InvalidIndex(index)
    prime, left = modulus_of(grid.kind), index
    chosen = {}
    for place in free_places(grid)[::-1]:
        chosen[place] = number_of(grid.kind, left % prime)
        left = left // prime
    free = Column(filled_up(grid.kind, chosen, grid.shape[1]))
    return free + solution(grid, column - grid * free)


def solve_grid(grid, other):
    """The grid, with noughts in the rows of the free places, that the first one leads to the other; None if none is."""
    check_grid(grid)
    check_grid(other)
    check_fields((grid, other))
    check_alike_kinds((grid, other))
    check_same_height(grid, other)
    height, width = grid.shape
    stair, places = led_to_stairs(rows_beside(grid.rows, other.rows), width + other.shape[1])
    if places and places[-1] >= width:
        return None
    nothing = tuple([nought(grid.kind) for _ in range(other.shape[1])])
    found = {place: stair[at][width:] for at, place in enumerate(places)}
    return Grid(tuple([found.get(place, nothing) for place in range(width)]))
