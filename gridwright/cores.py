"""Core grids of whole grids, and of grids of polys over a field."""

from gridwright.checks import check_alike_kinds, check_same_shape
from gridwright.coring import core_turnings_of, cores_of
from gridwright.errors import NotWhole, TooMany
from gridwright.grids import Grid, check_grid
from gridwright.kinds import coefficient_kind, is_field, nought

MOST_SIDE_OF_POLYS = 5


def _check_kind(grid):
    """That a grid is whole or of polys over a field."""
    if grid.kind != "whole" and not is_field(coefficient_kind(grid.kind)):
        raise NotWhole(grid.kind)


def _check_not_too_great(grid):
    """That a grid of polys is not too great."""
    side = max(grid.shape[0], grid.shape[1])
    if grid.kind != "whole" and side > MOST_SIDE_OF_POLYS:
        raise TooMany(side)


def _check_one(grid):
    check_grid(grid)
    _check_kind(grid)
    _check_not_too_great(grid)


def _check_pair(grid, other):
    """That two grids of one shape are such."""
    check_grid(grid)
    check_grid(other)
    _check_kind(grid)
    _check_kind(other)
    check_alike_kinds((grid, other))
    check_same_shape(grid, other)


def core_numbers(grid):
    """The tuple of the core numbers, each dividing the next one."""
    _check_one(grid)
    return cores_of(grid.kind, grid.rows)


def core_grid(grid):
    """The grid with the core numbers at the entries (i, i) and noughts elsewhere."""
    cores, zero = core_numbers(grid), nought(grid.kind)
    told = {}
    for k, core in enumerate(cores):
        told[(k, k)] = core
    height, width = grid.shape
    return Grid(tuple([tuple([told.get((k, place), zero) for place in range(width)]) for k in range(height)]))


def core_turnings(grid):
    """A pair of turning grids that lead a grid, from the left and from the right, to its core grid."""
    _check_one(grid)
    left, right = core_turnings_of(grid.kind, grid.rows)
    return Grid(left), Grid(right)


def are_led(grid, other):
    """Whether two grids of one shape are led into one another by turning grids on both sides."""
    _check_pair(grid, other)
    return core_numbers(grid) == core_numbers(other)


def parting_size(grid, other):
    """The least size with unlike products of the first core numbers; None if the grids are led into one another."""
    _check_pair(grid, other)
    form, other_form = core_grid(grid), core_grid(other)
    # Up to the first unlike entries the products are alike, and none of them is nought.
    unlike = [k + 1 for k in range(min(grid.shape[0], grid.shape[1])) if form.rows[k][k] != other_form.rows[k][k]]
    return unlike[0] if unlike else None
