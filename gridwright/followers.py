"""Followers of polys, core polys, and the block forms that they make."""

from gridwright.blocks import put_blocks
from gridwright.checks import check_fields, check_monic, check_poly
from gridwright.columns import Column
from gridwright.errors import InvalidPolys, TooMany
from gridwright.fieldgrids import check_field_square
from gridwright.grids import Grid, from_columns
from gridwright.kinds import is_field, nought, one
from gridwright.limits import MOST_SIDE
from gridwright.polys import Poly
from gridwright.rounds import full_pair, walk_from
from gridwright.stepping import nought_rows, solved
from gridwright.tables import one_rows, turned_rows


def follower(poly):
    """The grid with 1 directly below the entries (i, i), and the opposites of a monic poly's numbers as last column."""
    check_poly(poly)
    check_fields((poly,))
    check_monic(poly)
    if poly.degree > MOST_SIDE:
        raise TooMany(poly.degree)
    last = tuple([-number for number in poly.coefficients[:-1]])
    # The columns ahead of the last one are those of the one grid without its first one.
    return Grid(turned_rows(one_rows(poly.kind, poly.degree)[1:] + (last,)))


def _check_polys(polys):
    """That a value is a tuple of monic polys over one field, of degrees from 1 on, each dividing the next one."""
    if not isinstance(polys, tuple) or not polys:
        raise InvalidPolys(None)
    for index, poly in enumerate(polys):
        if not _is_monic(poly) or poly.kind != polys[0].kind or (index > 0 and poly % polys[index - 1]):
            raise InvalidPolys(index)


def _is_monic(value):
    """Whether a value is a monic poly over a field, of degree 1 or more."""
    return isinstance(value, Poly) and is_field(value.kind) and value.degree > 0 and value == value.monic()


def follower_blocks(polys):
    """The grid of the polys' followers from the corner on, noughts elsewhere."""
    _check_polys(polys)
    total = sum([poly.degree for poly in polys])
    if total > MOST_SIDE:
        raise TooMany(total)
    return put_blocks(tuple([follower(poly) for poly in polys]))


def core_polys(grid):
    """The tuple of the core polys, each dividing the next one."""
    check_field_square(grid)
    return tuple([poly for _, poly in _block_pairs(grid)])


def block_form(grid):
    """The grid of the followers of the core polys."""
    return follower_blocks(core_polys(grid))


def block_turning(grid):
    """A turning grid T for which the grid times T is T times its block form."""
    check_field_square(grid)
    walks = [walk_from(grid, column, poly.degree) for column, poly in _block_pairs(grid)]
    return from_columns(tuple([place for walk in walks for place in walk]))


def _block_pairs(grid):
    """The list of pairs of columns, whose rounds together are a base, and of their least polys, the core polys."""
    column, poly = full_pair(grid)
    if poly.degree == len(grid):
        return [(column, poly)]
    base = _kept_beside(grid, column, poly.degree)
    # What the grid does to the columns of this kept span, told by the numbers with which the base adds up to them.
    inner = [solved(grid.kind, turned_rows(base), (grid * Column(row)).entries) for row in base]
    lifting = Grid(turned_rows(base))
    return [(lifting * found, core) for found, core in _block_pairs(Grid(turned_rows(inner)))] + [(column, poly)]


def _kept_beside(grid, column, degree):
    """The rows of a base of a kept span that has nothing of a full column's round, but makes all columns with it."""
    rows = [place.entries for place in walk_from(grid, column, degree)]
    ends = [nought(grid.kind)] * (degree - 1) + [one(grid.kind)]
    telling = Column(solved(grid.kind, rows, ends))
    return nought_rows(grid.kind, [place.entries for place in walk_from(grid.turned, telling, degree)], len(grid))
