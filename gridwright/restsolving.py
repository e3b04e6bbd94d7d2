"""Equations of rests by any modulus, and the core numbers of grids of rests."""

from math import gcd

from gridwright.checks import check_alike_kinds, check_rests, check_same_height, check_same_shape
from gridwright.columns import Column, check_column, dot
from gridwright.coring import cores_of
from gridwright.errors import TooMany
from gridwright.grids import check_grid
from gridwright.leading import led, to_whole
from gridwright.limits import MOST_LISTED
from gridwright.reducing import base_behind, base_by_places, lowered, rows_of
from gridwright.scalars import modulus_of
from gridwright.tables import are_noughts, one_rows, row_sum, row_times, rows_beside, turned_rows


def _check_equation(grid, column):
    """That a grid and a column of rests make equations."""
    check_grid(grid)
    check_column(column)
    check_rests((grid, column))
    check_alike_kinds((grid, column))
    check_same_height(grid, column)


def _whole_rows(grid):
    """The rows of the numbers of a grid of rests."""
    _, numbers = to_whole(grid)
    return numbers.rows


def rest_cores(grid):
    """The tuple of the rest cores, each dividing the next one, the modulus standing for nought."""
    check_grid(grid)
    check_rests((grid,))
    modulus = modulus_of(grid.kind)
    cores = [gcd(core, modulus) for core in cores_of("whole", _whole_rows(grid))]
    return tuple(cores + [modulus] * (min(grid.shape[0], grid.shape[1]) - len(cores)))


def are_rest_led(grid, other):
    """Whether two grids of rests, of one shape, are led into one another by turning grids on both sides."""
    check_grid(grid)
    check_grid(other)
    check_rests((grid, other))
    check_alike_kinds((grid, other))
    check_same_shape(grid, other)
    return rest_cores(grid) == rest_cores(other)


def _solving_base(grid):
    """The base by which what is taken off ahead, by the modulus, is gathered behind, a number for each place."""
    height, width = grid.shape
    modulus = modulus_of(grid.kind)
    # As these stand first, no number grows above the modulus.
    bounds = [row_times(row, modulus) for row in one_rows("whole", height + width)]
    behind = [row_times(row, -1) for row in one_rows("whole", width)]
    return base_by_places("whole", bounds + list(rows_beside(turned_rows(_whole_rows(grid)), behind)))


def _first_numbers(grid, column, base):
    """The numbers of the first solution; None if there is none."""
    height, width = grid.shape
    _, numbers = to_whole(column)
    found = lowered(numbers.entries + (0,) * width, base, 0)
    return found[height:] if are_noughts(found[:height]) else None


def _as_column(numbers, kind):
    return led(Column(numbers), kind)


def rest_solutions(grid, column):
    """How many solutions there are."""
    _check_equation(grid, column)
    base = _solving_base(grid)
    return 0 if _first_numbers(grid, column, base) is None else _number_of_noughts(grid, base)


def _number_of_noughts(grid, base):
    """How many columns a grid leads to nought."""
    noughts, number = base_behind(base, len(grid)), 1
    for place in noughts:
        number = number * (modulus_of(grid.kind) // noughts[place][place])
    return number


def first_rest_solution(grid, column):
    """The first solution, ascending by the numbers; None if there is none."""
    _check_equation(grid, column)
    numbers = _first_numbers(grid, column, _solving_base(grid))
    return None if numbers is None else _as_column(numbers, grid.kind)


def all_rest_solutions(grid, column):
    """The tuple of all solutions, ascending by the numbers."""
    _check_equation(grid, column)
    base = _solving_base(grid)
    first = _first_numbers(grid, column, base)
    if first is None:
        return ()
    number = _number_of_noughts(grid, base)
    if number > MOST_LISTED:
        raise TooMany(number)
    noughts = base_behind(base, len(grid))
    found = [first]
    for place in noughts:
        many = modulus_of(grid.kind) // noughts[place][place]
        found = [_further(numbers, times, noughts, place) for numbers in found for times in range(many)]
    return tuple([_as_column(numbers, grid.kind) for numbers in found])


def _further(numbers, times, noughts, place):
    """The first of the solutions with the same numbers ahead of a place, and so many steps more there."""
    return lowered(row_sum(numbers, row_times(noughts[place], times)), noughts, place + 1)


def rest_bar(grid, column):
    """A bar of a grid whose sum of products with a column is not nought; None if there is a solution."""
    _check_equation(grid, column)
    for numbers in rows_of(base_behind(_solving_base(grid.turned), grid.shape[1])):
        found = _as_column(numbers, grid.kind)
        if dot(found, column):
            return found
    return None
