"""Stair forms of grids over a field and what they tell, and how many grids and spans there are."""

from gridwright.checks import (
    check_alike_kinds, check_between, check_fields, check_index, check_not_nought, check_prime, check_same_shape,
)
from gridwright.columns import Column
from gridwright.fieldgrids import check_field_grid
from gridwright.grids import Grid, check_grid
from gridwright.inverting import inverse_rows
from gridwright.limits import MOST_SIDE
from gridwright.rests import Rest
from gridwright.stepping import base_rows, led_to_stairs, places_left
from gridwright.tables import ascending_tuples, one_rows, rows_beside
from gridwright.wholes import raised


def stair_form(grid):
    """The one grid in stairs to which steps of rows lead."""
    check_field_grid(grid)
    stair, _ = led_to_stairs(grid.rows, grid.shape[1])
    return Grid(stair)


def step_places(grid):
    """The ascending tuple of the places of the pivots."""
    check_field_grid(grid)
    _, places = led_to_stairs(grid.rows, grid.shape[1])
    return places


def free_places(grid):
    """The ascending tuple of the places without pivots."""
    return places_left(step_places(grid), grid.shape[1])


def rank(grid):
    """The number of the pivots."""
    return len(step_places(grid))


def stair_turning(grid):
    """The turning grid that stands behind the stair form, in that of the grid with the one grid beside."""
    check_field_grid(grid)
    height, width = grid.shape
    stair, _ = led_to_stairs(rows_beside(grid.rows, one_rows(grid.kind, height)), width + height)
    return Grid(tuple([row[width:] for row in stair]))


def rank_parts(grid):
    """The pair of the columns at the step places, and of the rows of the stair form that are not nought."""
    check_field_grid(grid)
    check_not_nought((grid,))
    base = base_rows(grid.rows, grid.shape[1])
    places = step_places(grid)
    return Grid(tuple([tuple([row[place] for place in places]) for row in grid.rows])), Grid(base)


def both_turnings(grid):
    """A pair of turning grids that lead a grid, from the left and from the right, to ones at (i, i) and noughts."""
    check_field_grid(grid)
    return stair_turning(grid), stair_turning(stair_form(grid).turned).turned


def row_turning(grid, other):
    """A turning grid that leads a grid to another one of its shape; None if there is none."""
    check_grid(grid)
    check_grid(other)
    check_fields((grid, other))
    check_alike_kinds((grid, other))
    check_same_shape(grid, other)
    if stair_form(grid) != stair_form(other):
        return None
    back = inverse_rows(other.kind, stair_turning(other).rows)
    return Grid(back) * stair_turning(grid)


def falling_product(prime, exponent, many):
    """The product of P ** exponent - P ** i over i from 0 to one less than so many."""
    total = 1
    for k in range(many):
        total = total * (raised(1, prime, exponent) - raised(1, prime, k))
    return total


def rank_number(height, width, rank, prime):
    """How many grids of this shape by the prime have this rank."""
    check_between(height, 1, MOST_SIDE)
    check_between(width, 1, MOST_SIDE)
    check_between(rank, 0, MOST_SIDE)
    check_prime(prime)
    pairs = falling_product(prime, height, rank) * falling_product(prime, width, rank)
    return pairs // falling_product(prime, rank, rank)


def span_number(size, dimension, prime):
    """How many spans of columns of this size by the prime have so many columns in their bases."""
    check_between(size, 1, MOST_SIDE)
    check_between(dimension, 0, MOST_SIDE)
    check_prime(prime)
    return falling_product(prime, size, dimension) // falling_product(prime, dimension, dimension)


def span_at(size, dimension, prime, index):
    """The base of the span with this index, ascending by the step places, then by the entries, row by row."""
    check_between(size, 1, MOST_SIDE)
    check_between(dimension, 1, size)
    check_prime(prime)
    check_index(index, span_number(size, dimension, prime))
    left = index
    for places in ascending_tuples(size, dimension):
        free = _free_entries(places, size)
        many = raised(1, prime, len(free))
        if left < many:
            return _base_with(places, size, prime, _figures(left, prime, free))
        left = left - many
    return ()


def _free_entries(places, size):
    """The entries, row by row, that any number may take if rows stand in stairs with pivots at these places."""
    return [(k, place) for k, pivot in enumerate(places) for place in range(pivot + 1, size) if place not in places]


def _figures(number, prime, entries):
    """The figures of a number to the base P under the entries, the last one of which has the least figure."""
    found = {}
    left = number
    for entry in entries[::-1]:
        found[entry] = left % prime
        left = left // prime
    return found


def _base_with(places, size, prime, numbers):
    """The base with pivots at these places and these numbers at free entries."""
    columns = []
    for k, pivot in enumerate(places):
        row = [1 if place == pivot else numbers.get((k, place), 0) for place in range(size)]
        columns.append(Column(tuple([Rest(number, prime) for number in row])))
    return tuple(columns)
