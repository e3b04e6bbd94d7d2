"""Wishes about grids that are kept under names, and whether they hold."""

from gridwright.cores import MOST_SIDE_OF_POLYS, core_numbers
from gridwright.dets import det
from gridwright.errors import InvalidPairs, InvalidWish, UnknownName
from gridwright.grids import Grid
from gridwright.inverting import inverse_rows
from gridwright.kinds import coefficient_kind, is_field, is_kind, number_or_none
from gridwright.lattices import same_lattice
from gridwright.letters import poly_at
from gridwright.limits import MOST_SIDE
from gridwright.scalars import is_coefficient_kind
from gridwright.similar import is_alike
from gridwright.stairs import rank
from gridwright.stepping import base_rows
from gridwright.wholes import lies_between

# How many names each wish has, behind its first word.
_NAMES = {
    "kind": 1, "rank": 1, "turning": 1, "determinant": 1, "cores": 1, "nought at": 1, "rows": 2, "alike": 2,
    "commute": 2, "sum": 3, "product": 3,
}
_WITHOUT_MORE = ("turning", "rows", "alike", "commute", "sum", "product")


def is_name(value):
    """Whether a value is a name: one to eight letters from a to z."""
    if not isinstance(value, str) or not lies_between(len(value), 1, 8):
        return False
    return value.isascii() and value.isalpha() and value.islower()


def is_wish(value):
    """Whether a value is a wish by its form."""
    if not isinstance(value, tuple) or not value or not isinstance(value[0], str) or value[0] not in _NAMES:
        return False
    names = value[1:_NAMES[value[0]] + 1]
    more = value[_NAMES[value[0]] + 1:]
    if len(names) < _NAMES[value[0]] or not all([isinstance(name, str) for name in names]):
        return False
    if value[0] in _WITHOUT_MORE:
        return len(more) == 0
    return len(more) == 1 and _is_worth(value[0], more[0])


def _is_worth(word, value):
    """Whether a value is what stands behind the name in a wish with this first word."""
    if word == "kind":
        return is_kind(value)
    if word == "rank":
        return lies_between(value, 0, MOST_SIDE)
    if word == "cores":
        return isinstance(value, tuple) and all([isinstance(text, str) for text in value])
    return isinstance(value, str)


def names_in(wish):
    """The tuple of a wish's names in their order."""
    if not is_wish(wish):
        raise InvalidWish(wish)
    return wish[1:_NAMES[wish[0]] + 1]


def _has_rank(grid, worth):
    return is_field(grid.kind) and rank(grid) == worth


def _is_turning(grid):
    return grid.is_square and inverse_rows(grid.kind, grid.rows) is not None


def _has_determinant(grid, text):
    number = number_or_none(grid.kind, text)
    return grid.is_square and number is not None and det(grid) == number


def _has_cores(grid, texts):
    of_polys = is_field(coefficient_kind(grid.kind)) and max(grid.shape[0], grid.shape[1]) <= MOST_SIDE_OF_POLYS
    if grid.kind != "whole" and not of_polys:
        return False
    numbers = [number_or_none(grid.kind, text) for text in texts]
    return not any([number is None for number in numbers]) and tuple(numbers) == core_numbers(grid)


def _is_nought_at(grid, text):
    if not grid.is_square or not is_coefficient_kind(grid.kind):
        return False
    poly = number_or_none(f"poly {grid.kind}", text)
    return poly is not None and not poly_at(poly, grid)


def _holds_of_one(word, grid, worth):
    """Whether a wish of one grid holds."""
    if word == "kind":
        return grid.kind == worth
    if word == "rank":
        return _has_rank(grid, worth)
    if word == "turning":
        return _is_turning(grid)
    if word == "determinant":
        return _has_determinant(grid, worth)
    return _has_cores(grid, worth) if word == "cores" else _is_nought_at(grid, worth)


def _have_same_rows(grid, other):
    """Whether the rows of two grids have one span over a field, or one lattice."""
    if grid.kind != other.kind or grid.shape[1] != other.shape[1]:
        return False
    if grid.kind == "whole":
        return same_lattice(grid, other)
    width = grid.shape[1]
    return is_field(grid.kind) and base_rows(grid.rows, width) == base_rows(other.rows, width)


def _holds_of_two(word, grid, other):
    """Whether a wish of two grids holds."""
    if word == "rows":
        return _have_same_rows(grid, other)
    if grid.kind != other.kind or grid.shape != other.shape or not grid.is_square:
        return False
    return grid * other == other * grid if word == "commute" else is_field(grid.kind) and is_alike(grid, other)


def _holds_of_three(word, grid, other, told):
    """Whether a wish of three grids holds."""
    if grid.kind != other.kind:
        return False
    if word == "sum":
        return grid.shape == other.shape and grid + other == told
    return grid.shape[1] == other.shape[0] and grid * other == told


def holds_with(wish, grids):
    """Whether a wish holds for a dict of grids under their names, of which it knows all names."""
    found = [grids[name] for name in names_in(wish)]
    if len(found) == 1:
        return _holds_of_one(wish[0], found[0], wish[-1])
    if len(found) == 2:
        return _holds_of_two(wish[0], found[0], found[1])
    return _holds_of_three(wish[0], found[0], found[1], found[2])


def grids_by_name(pairs):
    """The dict of the grids of pairs of a name and a grid, which are looked at."""
    if not isinstance(pairs, tuple):
        raise InvalidPairs(None)
    found = {}
    for index, pair in enumerate(pairs):
        if not isinstance(pair, tuple) or len(pair) != 2 or not is_name(pair[0]) or not isinstance(pair[1], Grid):
            raise InvalidPairs(index)
        if pair[0] in found:
            raise InvalidPairs(index)
        found[pair[0]] = pair[1]
    return found


def check_names(wish, grids):
    """That a value is a wish, and there is a grid under each name of it."""
    for name in names_in(wish):
        if name not in grids:
            raise UnknownName(name)


def holds(wish, pairs):
    """Whether a wish holds for grids under names, told by pairs."""
    if not is_wish(wish):
        raise InvalidWish(wish)
    grids = grids_by_name(pairs)
    check_names(wish, grids)
    return holds_with(wish, grids)
