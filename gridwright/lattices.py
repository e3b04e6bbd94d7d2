"""Lattices, told by the whole grids whose rows make them."""

from gridwright.checks import check_as_long, check_between, check_same_width, check_wholes
from gridwright.columns import Column, check_column
from gridwright.coring import cores_of
from gridwright.errors import NotWithin
from gridwright.grids import Grid, check_grid
from gridwright.inverting import inverse_rows
from gridwright.ratios import Ratio
from gridwright.reducing import base_behind, base_by_places, lowered, rows_of
from gridwright.stepping import solved
from gridwright.tables import are_noughts, one_rows, row_times, rows_beside, turned_rows
from gridwright.wholestairs import whole_turning


def _check_lattice(grid):
    check_grid(grid)
    check_wholes((grid,))


def _check_pair(grid, other):
    """That these are two whole grids of one width."""
    check_grid(grid)
    check_grid(other)
    check_wholes((grid, other))
    check_same_width(grid, other)


def _check_with_column(grid, column):
    """That these are a whole grid and a whole column as long as the grid is wide."""
    check_grid(grid)
    check_column(column)
    check_wholes((grid, column))
    check_as_long(grid, column)


def _base(grid):
    return base_by_places("whole", grid.rows)


def _as_columns(rows):
    return tuple([Column(row) for row in rows])


def plain_base(grid):
    """The rows of the whole stair form that are not nought, as columns."""
    _check_lattice(grid)
    return _as_columns(rows_of(_base(grid)))


def same_lattice(grid, other):
    """Whether two grids of one width have the same lattice."""
    _check_pair(grid, other)
    return rows_of(_base(grid)) == rows_of(_base(other))


def lies_within(grid, other):
    """Whether the first lattice lies within the second one."""
    _check_pair(grid, other)
    base = _base(other)
    return all([are_noughts(lowered(row, base, 0)) for row in grid.rows])


def member_by(grid, column):
    """Whole numbers, as a column, by which the rows add up to a column; None if it is not in the lattice."""
    _check_with_column(grid, column)
    height, width = grid.shape
    # Behind each row stands what is taken off with it, so behind the column the numbers are gathered.
    behind = [row_times(row, -1) for row in one_rows("whole", height)]
    found = lowered(column.entries + (0,) * height, base_by_places("whole", rows_beside(grid.rows, behind)), 0)
    return Column(found[width:]) if are_noughts(found[:width]) else None


def member_bar(grid, column):
    """A column of ratios with whole sums of products with all rows, but not with a column; None if this is a member."""
    _check_with_column(grid, column)
    base = _base(grid)
    if are_noughts(lowered(column.entries, base, 0)):
        return None
    return Column(_bar_numbers(_as_ratios(rows_of(base)), _as_ratios((column.entries,))[0]))


def _as_ratios(rows):
    return [tuple([Ratio(number) for number in row]) for row in rows]


def _bar_numbers(rows, entries):
    """The numbers of a bar, the rows of the plain base being given, for a column that is not in the lattice."""
    # Noughts with all rows can stand beside a half with the column exactly if no ratios add the rows up to it.
    apart = solved("ratio", rows + [entries], [Ratio(0)] * len(rows) + [Ratio(1, 2)])
    if apart is not None:
        return apart
    numbers = solved("ratio", turned_rows(rows), entries)
    at = [k for k, number in enumerate(numbers) if not number.is_whole][0]
    return solved("ratio", rows, [Ratio(1 if k == at else 0) for k in range(len(rows))])


def plain_member(grid, column):
    """The column of a column's class with entries from 0 to one less than the pivots at their places."""
    _check_with_column(grid, column)
    return Column(lowered(column.entries, _base(grid), 0))


def lattice_sum(grid, other):
    """The plain base of all sums of a column of one lattice and one of another one."""
    _check_pair(grid, other)
    return _as_columns(rows_of(base_by_places("whole", grid.rows + other.rows)))


def lattice_meet(grid, other):
    """The plain base of all columns that lie in both lattices."""
    _check_pair(grid, other)
    width = grid.shape[1]
    nothing = (0,) * width
    # What the first rows add up to stands twice: where the others take it away ahead, it lies in both and stays behind.
    rows = [row + row for row in grid.rows] + [row + nothing for row in other.rows]
    return _as_columns(rows_of(base_behind(base_by_places("whole", rows), width)))


def noughts_of(rows, width):
    """The rows of the plain base of all columns of this size whose products with each of the rows add up to 0."""
    ahead = turned_rows(rows) if rows else [()] * width
    base = base_by_places("whole", rows_beside(ahead, one_rows("whole", width)))
    return rows_of(base_behind(base, len(rows)))


def filled(grid):
    """The plain base of the least filled lattice in which a lattice lies."""
    _check_lattice(grid)
    width = grid.shape[1]
    return _as_columns(noughts_of(noughts_of(grid.rows, width), width))


def is_filled(grid):
    """Whether a lattice has each column that it has a whole number of times, other than 0 times."""
    return plain_base(grid) == filled(grid)


def lattice_index(grid, other):
    """The index of the first lattice in the second one; None if their ranks are unlike."""
    if not lies_within(grid, other):
        raise NotWithin()
    inner, outer = _base(grid), _base(other)
    if len(inner) != len(outer):
        return None
    index = 1
    # With one rank both have their pivots at the same places.
    for place in inner:
        index = index * (inner[place][place] // outer[place][place])
    return index


def common_minor(grid, size):
    """The greatest number that divides all minors of a size, 0 if all are nought."""
    check_grid(grid)
    check_between(size, 1, min(grid.shape[0], grid.shape[1]))
    check_wholes((grid,))
    cores = cores_of("whole", grid.rows)
    if len(cores) < size:
        return 0
    product = 1
    for core in cores[:size]:
        product = product * core
    return product


def completed(grid):
    """A turning grid that has a grid's rows as its first ones; None if there is none."""
    _check_lattice(grid)
    height, width = grid.shape
    if height > width or common_minor(grid, height) != 1:
        return None
    # Turned over the grid is led to ones and noughts; what leads back has its columns ahead.
    return Grid(turned_rows(inverse_rows("whole", whole_turning(grid.turned).rows)))
