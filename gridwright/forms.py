"""Whether grids stand in the forms to which others are led, by the words of these forms."""

from gridwright.kinds import coefficient_kind, is_field, nought, one
from gridwright.polys import Poly
from gridwright.tables import are_noughts


def _pivot_places(rows):
    """The list of the first places at which rows are not nought; None if they do not ascend up to rows of noughts."""
    found = []
    for k, row in enumerate(rows):
        if not are_noughts(row):
            place = [at for at, number in enumerate(row) if number][0]
            if k > len(found) or (found and place <= found[-1]):
                return None
            found.append(place)
    return found


def stands_in_stairs(grid):
    """Whether a grid over a field stands in stairs."""
    places = _pivot_places(grid.rows)
    if places is None:
        return False
    others = [[row[place] for at, row in enumerate(grid.rows) if at != k] for k, place in enumerate(places)]
    ends = [grid.rows[k][place] for k, place in enumerate(places)]
    return all([end == one(grid.kind) for end in ends]) and all([are_noughts(column) for column in others])


def stands_in_whole_stairs(grid):
    """Whether a whole grid stands in whole stairs."""
    places = _pivot_places(grid.rows)
    if places is None:
        return False
    for k, place in enumerate(places):
        pivot = grid.rows[k][place]
        if pivot < 1 or not all([0 <= row[place] < pivot for row in grid.rows[:k]]):
            return False
    return True


def _is_plain(kind, number):
    """Whether a number that is not nought is above 0, monic, or 1."""
    if kind == "whole":
        return number > 0
    return number == one(kind) if is_field(kind) else number.lead == one(number.kind)


def has_cores(kind):
    """Whether grids of a kind are led to core grids: over a field, whole, or of polys over a field."""
    return kind == "whole" or is_field(kind) or is_field(coefficient_kind(kind))


def stands_as_cores(grid):
    """Whether a grid of a kind that has cores is a core grid, with 1 for each core over a field."""
    rows = grid.rows
    if not all([are_noughts(row[:k] + row[k + 1:]) for k, row in enumerate(rows)]):
        return False
    numbers = [rows[k][k] for k in range(min(grid.shape[0], grid.shape[1]))]
    cores = [number for number in numbers if number]
    if not are_noughts(numbers[len(cores):]) or not all([_is_plain(grid.kind, core) for core in cores]):
        return False
    return is_field(grid.kind) or not any([bool(cores[k] % cores[k - 1]) for k in range(1, len(cores))])


def stands_in_blocks(grid):
    """Whether a square grid over a field is a block form."""
    ends = [k + 1 for k in range(len(grid)) if k + 1 == len(grid) or not grid.rows[k + 1][k]]
    polys = []
    start = 0
    for end in ends:
        # The last column of a follower tells its poly.
        column = [grid.rows[k][end - 1] for k in range(start, end)]
        polys.append(Poly(grid.kind, tuple([-number for number in column]) + (1,)))
        start = end
    if any([bool(polys[k] % polys[k - 1]) for k in range(1, len(polys))]):
        return False
    return all([_is_block_entry(grid, ends, i, j) for i in range(len(grid)) for j in range(len(grid))])


def _is_block_entry(grid, ends, i, j):
    """Whether an entry is what it must be in followers with these ends, the last columns within them left out."""
    if j + 1 in ends:
        start = max([0] + [end for end in ends if end <= j])
        return start <= i <= j or not grid.rows[i][j]
    return grid.rows[i][j] == (one(grid.kind) if i == j + 1 else nought(grid.kind))
