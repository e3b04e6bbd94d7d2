"""Minors of grids of any kind."""

from math import comb

from gridwright.checks import check_between
from gridwright.errors import InvalidIndexes, InvalidShape, TooMany
from gridwright.expanding import determinant, minors_of_first_rows
from gridwright.grids import check_grid
from gridwright.kinds import is_field
from gridwright.leading import led
from gridwright.limits import MOST_LISTED
from gridwright.quotients import rank_by_tables
from gridwright.scalars import modulus_of
from gridwright.tables import are_noughts, ascending_tuples
from gridwright.wholes import lies_between


def _check_ascending(indexes, many):
    """That a value is an ascending tuple of one or more indexes of so many things."""
    if not isinstance(indexes, tuple) or not indexes:
        raise InvalidIndexes(None)
    low = 0
    for place, index in enumerate(indexes):
        if not lies_between(index, low, many - 1):
            raise InvalidIndexes(place)
        low = index + 1


def minor(grid, rows, places):
    """The determinant of the grid of some rows and as many places."""
    check_grid(grid)
    _check_ascending(rows, grid.shape[0])
    _check_ascending(places, grid.shape[1])
    if len(rows) != len(places):
        raise InvalidShape((len(rows), len(places)), grid.shape)
    return determinant(grid.kind, [[grid.rows[k][place] for place in places] for k in rows])


def _check_size(grid, size):
    """That a value is a size of minors of a grid."""
    check_between(size, 1, min(grid.shape[0], grid.shape[1]))


def minors(grid, size):
    """The tuple of tuples of all minors of a size, by the ascending tuples of their rows and their places."""
    check_grid(grid)
    _check_size(grid, size)
    number = comb(grid.shape[0], size) * comb(grid.shape[1], size)
    if number > MOST_LISTED:
        raise TooMany(number)
    return tuple([_minors_of_rows(grid, chosen) for chosen in ascending_tuples(grid.shape[0], size)])


def _minors_of_rows(grid, chosen):
    """The tuple of all minors of these rows, by the ascending tuples of their places."""
    found = minors_of_first_rows(grid.kind, [grid.rows[k] for k in chosen])[-1]
    return tuple([found[places] for places in ascending_tuples(grid.shape[1], len(chosen))])


def leading_minors(grid):
    """The minors of the first rows and places, of the sizes from 1 on."""
    check_grid(grid)
    found = minors_of_first_rows(grid.kind, grid.rows)
    return tuple([found[size][tuple(range(size))] for size in range(1, min(grid.shape[0], grid.shape[1]) + 1)])


def near_minors(grid, size):
    """The tuple of tuples of the minors of neighbouring rows and neighbouring places."""
    check_grid(grid)
    _check_size(grid, size)
    height, width = grid.shape
    return tuple([
        tuple([_near_minor(grid, k, place, size) for place in range(width - size + 1)])
        for k in range(height - size + 1)
    ])


def _near_minor(grid, start, place, size):
    """The near minor whose first entry stands in this row at this place."""
    return determinant(grid.kind, [row[place:place + size] for row in grid.rows[start:start + size]])


def minor_rank(grid):
    """The greatest size of a minor that is not nought, 0 if there is none."""
    check_grid(grid)
    if modulus_of(grid.kind) is not None and not is_field(grid.kind):
        return _rank_by_minors(grid)
    # Over whole numbers polys cannot be divided without rests; over ratios noughts are the same.
    exact = led(grid, "poly ratio") if grid.kind == "poly whole" else grid
    return rank_by_tables(exact.kind, exact.rows)


def _rank_by_minors(grid):
    """The same where products of numbers other than nought may be nought, so that no quotients tell it."""
    height, width = grid.shape
    for size in reversed(range(1, min(height, width) + 1)):
        if any([not are_noughts(_minors_of_rows(grid, chosen)) for chosen in ascending_tuples(height, size)]):
            return size
    return 0
