"""Least polys of columns and grids, the rounds of columns, and kept spans."""

from gridwright.checks import check_alike_kinds, check_as_long, check_fields, check_square
from gridwright.columns import Column, check_column, check_columns
from gridwright.dividing import common, least_multiple
from gridwright.fieldgrids import check_field_square
from gridwright.grids import check_grid
from gridwright.letters import poly_on
from gridwright.polys import Poly
from gridwright.spans import base_of, sum_base
from gridwright.stepping import led_to_stairs
from gridwright.tables import one_rows, turned_rows


def _check_with_column(grid, column):
    """That these are a square grid and a column over one field, the column as long as the grid is wide."""
    check_grid(grid)
    check_column(column)
    _check_fit(grid, column)


def _check_with_columns(grid, columns):
    """The same of several columns."""
    check_grid(grid)
    check_columns(columns)
    _check_fit(grid, columns[0])


def _check_fit(grid, column):
    check_fields((grid, column))
    check_alike_kinds((grid, column))
    check_square(grid)
    check_as_long(grid, column)


def walk_from(grid, column, many):
    """The list of a column, the grid times it, and so on, so many."""
    walk = []
    place = column
    for _ in range(many):
        walk.append(place)
        place = grid * place
    return walk


def column_poly(grid, column):
    """The monic poly of least degree that leads a column to nought."""
    _check_with_column(grid, column)
    many = len(grid) + 1
    rows = [place.entries for place in walk_from(grid, column, many)]
    # The first place of the walk that those ahead span is the first free one; its numbers tell it by these.
    stair, places = led_to_stairs(turned_rows(rows), many)
    degree = len(places)
    return Poly(grid.kind, tuple([-row[degree] for row in stair[:degree]]) + (1,))


def round_of(grid, column):
    """The tuple of a column, the grid times it, and so on, as many as the degree of the column's least poly."""
    return tuple(walk_from(grid, column, column_poly(grid, column).degree))


def least_poly(grid):
    """The monic poly of least degree that is nought at a grid."""
    check_field_square(grid)
    _, poly = full_pair(grid)
    return poly


def full_column(grid):
    """A column whose least poly is that of the grid."""
    check_field_square(grid)
    column, _ = full_pair(grid)
    return column


def full_pair(grid):
    """The pair of a column whose least poly is that of the grid, and of this poly."""
    units = [Column(row) for row in one_rows(grid.kind, len(grid))]
    found = (units[0], column_poly(grid, units[0]))
    for unit in units[1:]:
        # Where the poly so far leads the unit column to nought, nothing has to be added.
        if poly_on(found[1], grid, unit):
            found = _pair_of_both(grid, found, (unit, column_poly(grid, unit)))
    return found


def _pair_of_both(grid, pair, other_pair):
    """The pair of a column and its least poly, the least common multiple of those of two columns."""
    column, poly = pair
    other, other_poly = other_pair
    both = least_multiple(poly, other_poly)
    if both == other_poly:
        return other_pair
    # Each single goes to the column that has it more often, so that two polys clear of one another make both.
    share = _part_with_singles_of(poly, both // other_poly)
    return poly_on(poly // share, grid, column) + poly_on(other_poly // (both // share), grid, other), both


def _part_with_singles_of(poly, other):
    """The part of a poly in which each single that is a part of another one stands as often as in the poly."""
    left, shared = poly, common(poly, other)
    while shared.degree > 0:
        left = left // shared
        shared = common(left, other)
    return poly // left


def kept_base(grid, columns):
    """The base of the least kept span in which columns lie."""
    _check_with_columns(grid, columns)
    base = base_of(columns)
    grown = _grown(grid, base)
    while len(grown) > len(base):
        base, grown = grown, _grown(grid, grown)
    return base


def _grown(grid, base):
    """The base of the span of some columns and of what the grid leads them to."""
    return sum_base(base, tuple([grid * column for column in base])) if base else base


def is_kept(grid, columns):
    """Whether the span of columns is kept."""
    return len(kept_base(grid, columns)) == len(base_of(columns))
