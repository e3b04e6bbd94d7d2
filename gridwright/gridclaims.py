"""Claims about grids, their forms and their ranks, and which papers show them."""

from gridwright.columns import column_or_none
from gridwright.forms import has_cores, stands_as_cores, stands_in_blocks, stands_in_stairs, stands_in_whole_stairs
from gridwright.grids import Grid, from_columns, grid_or_none, is_even, is_lower, is_upper, order_sign
from gridwright.kinds import is_field, number_or_none, one
from gridwright.leading import led
from gridwright.letters import poly_at
from gridwright.polys import read_poly
from gridwright.proving import (
    grids_or_none, has_shape, is_column, is_grid, is_square, makes, makes_one, undoes,
)
from gridwright.rounds import walk_from
from gridwright.scalars import modulus_of
from gridwright.wholes import is_whole_number


def shows_turning(claim, paper):
    """Whether a paper is the inverse of a grid."""
    grid, other = grid_or_none(claim[1]), grid_or_none(paper)
    return is_grid(grid) and undoes(grid, other, len(grid))


def are_whole(column):
    """Whether all ratios of a column are whole."""
    return all([entry.is_whole for entry in column.entries])


def shows_not_turning(claim, paper):
    """Whether a paper is a column that a square grid leads to what a turning grid would not lead it to."""
    grid, column = grid_or_none(claim[1]), column_or_none(paper)
    if not is_square(grid):
        return False
    if grid.kind == "whole":
        if not is_column(column, "ratio", len(grid)):
            return False
        return not are_whole(column) and are_whole(led(grid, "ratio") * column)
    if not is_field(grid.kind) and modulus_of(grid.kind) is None:
        return False
    return is_column(column, grid.kind, len(grid)) and bool(column) and not grid * column


def shows_rank(claim, paper):
    """Whether a paper shows the rank of a grid over a field."""
    return has_rank(grid_or_none(claim[1]), claim[2], paper)


def has_rank(grid, number, paper):
    """The same, the grid being read."""
    if not is_grid(grid) or not is_field(grid.kind) or not is_whole_number(number):
        return False
    if number == 0:
        return isinstance(paper, tuple) and len(paper) == 0 and not grid
    told = grids_or_none(paper, 4)
    if told is None:
        return False
    first, second, left, right = told
    if first.shape[1] != number or not makes(first, second, grid):
        return False
    return makes_one(left, first) and makes_one(second, right)


def _leads_by_rows(grid, form, paper):
    """Whether a paper is a turning grid, with its inverse, that leads a grid from the left to another one."""
    told = grids_or_none(paper, 2)
    return told is not None and undoes(told[0], told[1], len(grid)) and makes(told[0], grid, form)


def shows_stairs(claim, paper):
    """Whether a paper leads a grid over a field to its stair form."""
    grid, form = grid_or_none(claim[1]), grid_or_none(claim[2])
    if not is_grid(grid) or not is_field(grid.kind) or not has_shape(form, grid.kind, grid.shape):
        return False
    return stands_in_stairs(form) and _leads_by_rows(grid, form, paper)


def shows_whole_stairs(claim, paper):
    """Whether a paper leads a whole grid to its whole stair form."""
    grid, form = grid_or_none(claim[1]), grid_or_none(claim[2])
    if not is_grid(grid) or grid.kind != "whole" or not has_shape(form, "whole", grid.shape):
        return False
    return stands_in_whole_stairs(form) and _leads_by_rows(grid, form, paper)


def shows_cores(claim, paper):
    """Whether a paper leads a grid, whole or of polys over a field, to its core grid."""
    grid, form = grid_or_none(claim[1]), grid_or_none(claim[2])
    if not is_grid(grid) or not has_cores(grid.kind) or is_field(grid.kind):
        return False
    told = grids_or_none(paper, 4)
    if told is None or not has_shape(form, grid.kind, grid.shape) or not stands_as_cores(form):
        return False
    left, left_back, right, right_back = told
    if not undoes(left, left_back, grid.shape[0]) or not undoes(right, right_back, grid.shape[1]):
        return False
    return left.kind == right.kind == grid.kind and left * grid * right == form


def shows_blocks(claim, paper):
    """Whether a paper turns a square grid over a field into its block form."""
    form = grid_or_none(claim[2])
    return is_square(form) and is_field(form.kind) and stands_in_blocks(form) and shows_alike(claim, paper)


def shows_alike(claim, paper):
    """Whether a paper turns a square grid over a field into another one."""
    grid, other = grid_or_none(claim[1]), grid_or_none(claim[2])
    if not is_square(grid) or not is_field(grid.kind) or not has_shape(other, grid.kind, grid.shape):
        return False
    told = grids_or_none(paper, 2)
    if told is None or told[0].kind != grid.kind or not undoes(told[0], told[1], len(grid)):
        return False
    return grid * told[0] == told[0] * other


def shows_not_alike(claim, paper):
    """Whether a paper is a poly with two unlike ranks at two square grids over a field, and shows these."""
    grid, other = grid_or_none(claim[1]), grid_or_none(claim[2])
    if not is_square(grid) or not is_field(grid.kind) or not has_shape(other, grid.kind, grid.shape):
        return False
    if not isinstance(paper, tuple) or len(paper) != 5:
        return False
    poly, number, first, other_number, second = (read_poly(paper[0]),) + paper[1:]
    if poly is None or poly.kind != grid.kind or not has_rank(poly_at(poly, grid), number, first):
        return False
    return has_rank(poly_at(poly, other), other_number, second) and number != other_number


def shows_least(claim, paper):
    """Whether a paper is a column with a free round as long as the degree of a poly that is nought at a grid."""
    grid, poly = grid_or_none(claim[1]), read_poly(claim[2])
    if not is_square(grid) or not is_field(grid.kind) or poly is None or poly.kind != grid.kind:
        return False
    if not 1 <= poly.degree <= len(grid) or poly.lead != one(poly.kind) or poly_at(poly, grid):
        return False
    if not isinstance(paper, tuple) or len(paper) != 2:
        return False
    column, left = column_or_none(paper[0]), grid_or_none(paper[1])
    if not is_column(column, grid.kind, len(grid)) or not is_grid(left):
        return False
    return makes_one(left, from_columns(tuple(walk_from(grid, column, poly.degree))))


def _is_order(value, size):
    """Whether a value is an order of a size."""
    if not isinstance(value, tuple) or len(value) != size or not all([is_whole_number(place) for place in value]):
        return False
    return sorted(list(value)) == list(range(size))


def shows_determinant(claim, paper):
    """Whether a paper is an order and triangles whose product the rows of a grid over a field in this order are."""
    grid = grid_or_none(claim[1])
    if not is_square(grid) or not is_field(grid.kind) or not isinstance(claim[2], str):
        return False
    number = number_or_none(grid.kind, claim[2])
    if number is None or not isinstance(paper, tuple) or len(paper) != 3 or not _is_order(paper[0], len(grid)):
        return False
    lower, upper = grid_or_none(paper[1]), grid_or_none(paper[2])
    if not has_shape(lower, grid.kind, grid.shape) or not has_shape(upper, grid.kind, grid.shape):
        return False
    product, unit = one(grid.kind), one(grid.kind)
    for k, row in enumerate(upper.rows):
        product = product * row[k]
    if not is_lower(lower) or not is_upper(upper) or any([row[k] != unit for k, row in enumerate(lower.rows)]):
        return False
    ordered = Grid(tuple([grid.rows[place] for place in paper[0]]))
    return lower * upper == ordered and product * order_sign(paper[0]) == number


def shows_mate(claim, paper):
    """Whether two grids of ratios are mates, which needs no paper."""
    grid, mate = grid_or_none(claim[1]), grid_or_none(claim[2])
    if not is_grid(grid) or grid.kind != "ratio" or not has_shape(mate, "ratio", (grid.shape[1], grid.shape[0])):
        return False
    ahead, behind = grid * mate, mate * grid
    if not isinstance(paper, tuple) or len(paper) != 0 or not is_even(ahead) or not is_even(behind):
        return False
    return ahead * grid == grid and behind * mate == mate


def shows_nearest(claim, paper):
    """Whether a paper is a column that a grid leads to the column of its span that is nearest to another one."""
    grid, column, found = grid_or_none(claim[1]), column_or_none(claim[2]), column_or_none(claim[3])
    if not is_grid(grid) or grid.kind != "ratio" or not is_column(column, "ratio", len(grid)):
        return False
    if not is_column(found, "ratio", len(grid)) or not makes(grid, column_or_none(paper), found):
        return False
    return not grid.turned * (column - found)


_LENGTHS = {
    "turning": 2, "not turning": 2, "rank": 3, "stairs": 3, "whole stairs": 3, "cores": 3, "blocks": 3, "alike": 3,
    "not alike": 3, "least": 3, "determinant": 3, "mate": 3, "nearest": 4,
}
_SHOWN_BY = {
    "turning": shows_turning, "not turning": shows_not_turning, "rank": shows_rank, "stairs": shows_stairs,
    "whole stairs": shows_whole_stairs, "cores": shows_cores, "blocks": shows_blocks, "alike": shows_alike,
    "not alike": shows_not_alike, "least": shows_least, "determinant": shows_determinant, "mate": shows_mate,
    "nearest": shows_nearest,
}


def is_shown_of_grids(claim, paper):
    """Whether a tuple that begins with a string is a claim about grids, and a paper shows it."""
    if claim[0] not in _SHOWN_BY or len(claim) != _LENGTHS[claim[0]]:
        return False
    shows = _SHOWN_BY[claim[0]]
    return shows(claim, paper)
