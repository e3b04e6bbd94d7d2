"""The checker of claims by their papers: it finds nothing itself, and only multiplies, adds and compares."""

from gridwright.equationclaims import is_shown_of_equations
from gridwright.gridclaims import is_shown_of_grids
from gridwright.lookclaims import is_shown_of_looks
from gridwright.polyclaims import is_shown_of_polys


def accepts(claim, paper):
    """Whether a value is a claim for the checker, and another one a paper for it."""
    if not isinstance(claim, tuple) or not claim or not isinstance(claim[0], str):
        return False
    if is_shown_of_grids(claim, paper) or is_shown_of_equations(claim, paper):
        return True
    return is_shown_of_polys(claim, paper) or is_shown_of_looks(claim, paper)
