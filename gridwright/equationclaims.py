"""Claims about equations, lattices and rows, and which papers show them."""

from gridwright.columns import column_or_none, dot
from gridwright.grids import grid_or_none
from gridwright.gridclaims import are_whole
from gridwright.kinds import is_field
from gridwright.leading import led
from gridwright.proving import grids_or_none, is_column, is_grid, makes
from gridwright.scalars import modulus_of


def _solves(grid, column, paper):
    """Whether a paper is a column that a grid leads to another one, which was read."""
    return is_grid(grid) and column is not None and makes(grid, column_or_none(paper), column)


def _bars(grid, column, paper):
    """Whether a paper is a bar that shows that a grid leads no column to another one."""
    bar = column_or_none(paper)
    if not is_grid(grid) or not is_column(column, grid.kind, len(grid)):
        return False
    if grid.kind == "whole":
        return is_column(bar, "ratio", len(grid)) and _bars_whole(grid, column, bar)
    if not is_field(grid.kind) and modulus_of(grid.kind) is None:
        return False
    return is_column(bar, grid.kind, len(grid)) and not grid.turned * bar and bool(dot(bar, column))


def _bars_whole(grid, column, bar):
    """The same of a whole grid and a column of ratios."""
    return are_whole(led(grid.turned, "ratio") * bar) and not dot(bar, led(column, "ratio")).is_whole


def shows_solved(claim, paper):
    """Whether a paper is a solution of an equation."""
    return _solves(grid_or_none(claim[1]), column_or_none(claim[2]), paper)


def shows_barred(claim, paper):
    """Whether a paper is a bar of an equation."""
    return _bars(grid_or_none(claim[1]), column_or_none(claim[2]), paper)


def _lattice_pair(claim):
    """The pair of a whole grid turned over and a column, of which a claim about a lattice speaks; None for others."""
    grid, column = grid_or_none(claim[1]), column_or_none(claim[2])
    return (grid.turned, column) if is_grid(grid) and grid.kind == "whole" and column is not None else None


def shows_member(claim, paper):
    """Whether a paper tells how often each row makes a column of a lattice."""
    pair = _lattice_pair(claim)
    return pair is not None and _solves(pair[0], pair[1], paper)


def shows_no_member(claim, paper):
    """Whether a paper is a whole bar for a column beside a lattice."""
    pair = _lattice_pair(claim)
    return pair is not None and _bars(pair[0], pair[1], paper)


def shows_rows(claim, paper):
    """Whether a paper makes the rows of two grids of one another, over a field or whole."""
    told, grids = grids_or_none(claim[1:], 2), grids_or_none(paper, 2)
    if told is None or grids is None:
        return False
    grid, other = told
    if grid.kind != "whole" and not is_field(grid.kind):
        return False
    return makes(grids[0], other, grid) and makes(grids[1], grid, other)


_SHOWN_BY = {
    "solved": shows_solved, "barred": shows_barred, "member": shows_member, "no member": shows_no_member,
    "rows": shows_rows,
}


def is_shown_of_equations(claim, paper):
    """Whether a tuple that begins with a string is a claim about equations or lattices, and a paper shows it."""
    if claim[0] not in _SHOWN_BY or len(claim) != 3:
        return False
    shows = _SHOWN_BY[claim[0]]
    return shows(claim, paper)
