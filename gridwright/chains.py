"""Chain grids, and the chain forms that they make."""

from gridwright.blocks import put_blocks
from gridwright.checks import check_between
from gridwright.errors import InvalidNumber, NotAField
from gridwright.fieldgrids import check_field_square, check_number_beside
from gridwright.grids import Grid, check_grid, from_columns
from gridwright.kinds import check_kind, is_field, nought, number_in, one
from gridwright.limits import MOST_SIDE
from gridwright.rounds import walk_from
from gridwright.solving import nought_base
from gridwright.spans import chosen
from gridwright.stairs import rank
from gridwright.standing import less_number, numbers_in


def chain_grid(kind, number, size):
    """The grid of a size with a number at the entries (i, i), 1 directly below them, and noughts elsewhere."""
    check_kind(kind)
    if not is_field(kind):
        raise NotAField(kind)
    worth = number_in(kind, number)
    if worth is None:
        raise InvalidNumber(number)
    check_between(size, 1, MOST_SIDE)
    entries = {0: worth, 1: one(kind)}
    return Grid(tuple([tuple([entries.get(i - j, nought(kind)) for j in range(size)]) for i in range(size)]))


def _vanishing_bases(lowered):
    """The bases of what powers of a grid, from the power 0 on, lead to nought, up to the greatest one."""
    bases = [(), nought_base(lowered)]
    power = lowered
    while len(bases[-1]) > len(bases[-2]):
        power = power * lowered
        bases.append(nought_base(power))
    return bases[:-1]


def _chains_from(lowered):
    """The list of the longest chains, long ones first: each column is led to the next one, the last one to nought."""
    bases = _vanishing_bases(lowered)
    chains = []
    for size in reversed(range(1, len(bases))):
        # What stands in longer chains so far from their ends is told already, as is what vanishes sooner.
        told = bases[size - 1] + tuple([chain[len(chain) - size] for chain in chains])
        columns = told + bases[size]
        fresh = [columns[at] for at in chosen(columns) if at >= len(told)]
        chains = chains + [walk_from(lowered, column, size) for column in fresh]
    return chains


def _numbered_chains(grid):
    """The list of pairs of a number and a chain, in the order of the chain form; None if there is none."""
    pairs = []
    for number in numbers_in(grid):
        pairs = pairs + [(number, chain) for chain in _chains_from(less_number(grid, number))]
    return pairs if sum([len(chain) for _, chain in pairs]) == len(grid) else None


def chain_form(grid):
    """The grid of chain grids to which a grid is alike; None if there is none."""
    check_field_square(grid)
    pairs = _numbered_chains(grid)
    if pairs is None:
        return None
    return put_blocks(tuple([chain_grid(grid.kind, number, len(chain)) for number, chain in pairs]))


def chain_turning(grid):
    """A turning grid T for which the grid times T is T times its chain form; None if there is none."""
    check_field_square(grid)
    pairs = _numbered_chains(grid)
    return None if pairs is None else from_columns(tuple([column for _, chain in pairs for column in chain]))


def chain_count(grid, number, size):
    """How many chain grids of a number and of at least a size the chain form has, as the ranks of powers tell."""
    check_grid(grid)
    check_number_beside(grid, number)
    check_between(size, 1, MOST_SIDE)
    check_field_square(grid)
    lowered = less_number(grid, number)
    return rank(lowered.power(size - 1)) - rank(lowered.power(size))
