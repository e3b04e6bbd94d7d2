"""One-sided and inner inverses, and triangles, of grids over a field."""

from gridwright.errors import NoInverse, NoTriangles
from gridwright.fieldgrids import check_field_grid, check_field_square
from gridwright.grids import Grid
from gridwright.kinds import nought, one, unit_inverse
from gridwright.stairs import stair_turning, step_places
from gridwright.tables import row_less


def left_inverse(grid):
    """A grid that makes a one grid with this one on the right."""
    check_field_grid(grid)
    width = grid.shape[1]
    if len(step_places(grid)) < width:
        raise NoInverse()
    return Grid(stair_turning(grid).rows[:width])


def right_inverse(grid):
    """A grid that makes a one grid with this one on the left."""
    check_field_grid(grid)
    return left_inverse(grid.turned).turned


def inner_inverse(grid):
    """A grid that leaves this one as it is if it stands between it and itself."""
    check_field_grid(grid)
    height, width = grid.shape
    turning, places = stair_turning(grid), step_places(grid)
    nothing = tuple([nought(grid.kind) for _ in range(height)])
    found = {place: turning.rows[at] for at, place in enumerate(places)}
    return Grid(tuple([found.get(place, nothing) for place in range(width)]))


def lower_upper(grid):
    """The pair (L, U) of triangles whose product a square grid is, its rows in the order as they stand."""
    order, lower, upper = ordered_triangles(grid)
    for k in range(len(grid) - 1):
        # The first order of rows in which there are triangles departs where a leading minor is nought.
        if order[k] != k or not upper.rows[k][k]:
            raise NoTriangles(k + 1)
    return lower, upper


def ordered_triangles(grid):
    """The triple of an order and of the triangles L, U whose product the rows of a square grid in this order are."""
    check_field_square(grid)
    order = []
    factors = []
    upper = []
    # Each row left stands behind its index and the numbers with which the chosen rows were taken off.
    left = [(k, (), row) for k, row in enumerate(grid.rows)]
    for place in range(len(grid)):
        at = _chosen(left, place)
        index, taken, pivot = left[at]
        order.append(index)
        factors.append(taken)
        upper.append(pivot)
        left = [_less_pivot(entry, pivot, place) for entry in left[:at] + left[at + 1:]]
    return tuple(order), Grid(_with_ones(grid.kind, factors)), Grid(tuple(upper))


def _chosen(left, place):
    """The index among the rows left of the first one that is not nought at the place, 0 if there is none."""
    for at, (_, _, row) in enumerate(left):
        if row[place]:
            return at
    return 0


def _less_pivot(entry, pivot, place):
    """A row left, with its index and numbers, less what of the chosen row makes it nought at the place."""
    index, taken, row = entry
    # Where the chosen row is nought, so are all others.
    times = row[place] * unit_inverse(pivot[place]) if pivot[place] else row[place]
    return index, taken + (times,), row_less(row, pivot, times)


def _with_ones(kind, factors):
    """The rows that begin with these numbers, then 1, and then noughts."""
    size = len(factors)
    return tuple([taken + (one(kind),) + tuple([nought(kind)] * (size - k - 1)) for k, taken in enumerate(factors)])
