"""Grids that are alike, what leads one to the other, or the poly that tells them apart."""

from gridwright.checks import check_fields, check_poly
from gridwright.fieldgrids import check_field_squares
from gridwright.followers import block_turning, core_polys
from gridwright.grids import Grid, check_grid
from gridwright.inverting import inverse_rows
from gridwright.letters import poly_at
from gridwright.stairs import rank


def is_alike(grid, other):
    """Whether some turning grid leads one grid to the other."""
    check_field_squares(grid, other)
    return core_polys(grid) == core_polys(other)


def leading_grid(grid, other):
    """A turning grid T for which the first grid times T is T times the other one; None if there is none."""
    if not is_alike(grid, other):
        return None
    back = inverse_rows(other.kind, block_turning(other).rows)
    return block_turning(grid) * Grid(back)


def telling_poly(grid, other):
    """A core poly of either grid with unlike ranks at both; None if they are alike."""
    check_field_squares(grid, other)
    polys, others = core_polys(grid), core_polys(other)
    if polys == others:
        return None
    # One of the last two that differ, counted from behind, has unlike ranks.
    last = [k for k in range(1, len(polys) + 1) if polys[-k:] != others[-k:]][0]
    poly, other_poly = polys[-last], others[-last]
    return poly if poly_rank(poly, grid) != poly_rank(poly, other) else other_poly


def poly_rank(poly, grid):
    """The rank of a poly at a grid."""
    check_poly(poly)
    check_grid(grid)
    check_fields((poly, grid))
    return rank(poly_at(poly, grid))
