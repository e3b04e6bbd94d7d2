"""Lengths, nearest columns, leaning grids and mates, over ratios; whole numbers stand for these."""

from gridwright.checks import check_between, check_same_height
from gridwright.columns import check_column, dot
from gridwright.errors import InvalidPoints, NotOrdered, TooFew
from gridwright.grids import Grid, check_grid, from_columns, is_even, nought_grid
from gridwright.inverting import inverse_rows
from gridwright.leading import led
from gridwright.polys import Poly
from gridwright.ratios import Ratio, as_ratio
from gridwright.solving import nought_base
from gridwright.stairs import rank_parts
from gridwright.stepping import solved
from gridwright.tables import sums_by_rows, turned_rows
from gridwright.wholes import raised

_MOST_POINTS = 12
_MOST_DEGREE = 7


def _check_ordered(values):
    """That all values are whole or of ratios."""
    for value in values:
        if value.kind not in ("whole", "ratio"):
            raise NotOrdered(value.kind)


def _over_ratios(grid):
    """A grid, which is looked at, led to ratios."""
    check_grid(grid)
    _check_ordered((grid,))
    return led(grid, "ratio")


def _pair_over_ratios(grid, column):
    """A grid and a column as long as it is high, which are looked at, led to ratios."""
    check_grid(grid)
    check_column(column)
    _check_ordered((grid, column))
    check_same_height(grid, column)
    return led(grid, "ratio"), led(column, "ratio")


def length(column):
    """The sum of the squares of a column's entries."""
    check_column(column)
    _check_ordered((column,))
    entries = led(column, "ratio")
    return dot(entries, entries)


def product_grid(grid):
    """A grid turned over, times the grid."""
    over_ratios = _over_ratios(grid)
    return over_ratios.turned * over_ratios


def across(grid):
    """The base of the columns that stand square to each of a grid's columns."""
    return nought_base(_over_ratios(grid).turned)


def nearest(grid, column):
    """The column of the span of a grid's columns whose difference from a column stands square to each of them."""
    over_ratios, place = _pair_over_ratios(grid, column)
    return over_ratios * (_mate_of(over_ratios) * place)


def distance(grid, column):
    """The length of the difference of a column from the nearest one."""
    place = nearest(grid, column)
    return length(led(column, "ratio") - place)


def closest(grid, column):
    """The column of least length that a grid leads to the nearest one."""
    over_ratios, place = _pair_over_ratios(grid, column)
    return _mate_of(over_ratios) * place


def leaning_grid(grid):
    """The grid that leads each column to the nearest one of the span of a grid's columns."""
    over_ratios = _over_ratios(grid)
    return over_ratios * _mate_of(over_ratios)


def is_leaning(grid):
    """Whether a square grid is itself turned over, and its own square."""
    over_ratios = _over_ratios(grid)
    return is_even(over_ratios) and over_ratios * over_ratios == over_ratios


def square_parts(grid):
    """The pair of a grid whose columns stand square and of one with ones and noughts below, whose product it is."""
    columns = _over_ratios(grid).columns
    squares = []
    factors = []
    for place, column in enumerate(columns):
        shares = [_share(square, column) for square in squares]
        left = column
        for at, share in enumerate(shares):
            left = left - squares[at] * share
        squares.append(left)
        factors.append(tuple(shares) + (Ratio(1),) + (Ratio(0),) * (len(columns) - place - 1))
    return from_columns(tuple(squares)), Grid(turned_rows(factors))


def _share(square, column):
    """The number that times a column leads to the nearest one to another column, 0 for the nought column."""
    return dot(square, column) * length(square).inverse() if square else Ratio(0)


def _mate_of(grid):
    """The mate of a grid of ratios: its rank parts have mates by the inverses of their product grids."""
    if not grid:
        return nought_grid("ratio", grid.shape[1], grid.shape[0])
    columns, rows = rank_parts(grid)
    return _right_mate(rows) * _right_mate(columns.turned).turned


def _right_mate(rows):
    """The mate of a grid with free rows."""
    return rows.turned * Grid(inverse_rows("ratio", (rows * rows.turned).rows))


def mate(grid):
    """The mate of a grid."""
    return _mate_of(_over_ratios(grid))


def _checked_points(points):
    """The list of pairs of ratios that the points are."""
    if not isinstance(points, tuple) or not points:
        raise InvalidPoints(None)
    pairs = []
    for index, point in enumerate(points):
        pair = _pair_of_ratios(point)
        if pair is None or index == _MOST_POINTS:
            raise InvalidPoints(index)
        pairs.append(pair)
    return pairs


def _pair_of_ratios(value):
    """The pair of ratios that a value is; None for what is no pair of ratios or whole numbers."""
    if not isinstance(value, tuple) or len(value) != 2:
        return None
    place, worth = as_ratio(value[0]), as_ratio(value[1])
    return None if place is None or worth is None else (place, worth)


def nearest_poly(points, degree):
    """The poly up to a degree by which the squares of what points lie away from it add up to the least sum."""
    pairs = _checked_points(points)
    check_between(degree, 0, _MOST_DEGREE)
    many = len({(place.top, place.bottom): True for place, _ in pairs})
    if many <= degree:
        raise TooFew(many)
    # There may be more points than rows in a grid: a row for each power of their first numbers is enough.
    powers = [tuple([raised(Ratio(1), place, exponent) for place, _ in pairs]) for exponent in range(degree + 1)]
    table = [sums_by_rows("ratio", powers, row) for row in powers]
    return Poly("ratio", solved("ratio", table, sums_by_rows("ratio", powers, [worth for _, worth in pairs])))
