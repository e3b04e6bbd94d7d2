"""Looks at a hidden grid over a field, and what they make sure."""

from gridwright.checks import check_between, check_rests
from gridwright.columns import Column, check_column, dot
from gridwright.errors import (
    InvalidPairs, InvalidShape, NotAField, NotLooks, NotSquare, Quarrels, TooMany, Unlike,
)
from gridwright.grids import Grid, check_grid, from_columns, is_even
from gridwright.inverting import inverse_rows
from gridwright.kinds import check_kind, is_field, nought
from gridwright.limits import MOST_LOOKS, MOST_SIDE
from gridwright.scalars import modulus_of
from gridwright.spans import chosen
from gridwright.stairs import falling_product
from gridwright.stepping import base_rows, nought_rows, solved
from gridwright.tables import one_rows
from gridwright.wholes import lies_between, raised


class Looks:
    """Pairs of columns, the first of which a hidden grid of a told kind and shape leads to the second one."""

    def __init__(self, kind, shape, pairs):
        check_kind(kind)
        if not is_field(kind):
            raise NotAField(kind)
        check_told_shape(shape)
        if not isinstance(pairs, tuple):
            raise InvalidPairs(None)
        for index, pair in enumerate(pairs):
            if index == MOST_LOOKS or not _is_look(kind, shape, pair):
                raise InvalidPairs(index)
        self.kind = kind
        self.shape = shape
        self.pairs = pairs

    def __eq__(self, other):
        return (isinstance(other, Looks) and self.kind == other.kind and self.shape == other.shape
                and self.pairs == other.pairs)

    def saw(self, x, y):
        """The looks with one more."""
        check_column(x)
        check_column(y)
        _check_kinds(self, (x, y))
        _check_width(self, x)
        if len(y) != self.shape[0]:
            raise InvalidShape(self.shape, y.shape)
        if len(self.pairs) == MOST_LOOKS:
            raise TooMany(MOST_LOOKS + 1)
        return Looks(self.kind, self.shape, self.pairs + ((x, y),))


def check_told_shape(value):
    """That a value is a pair of sides of a grid."""
    if not isinstance(value, tuple) or len(value) != 2:
        raise InvalidShape(value, None)
    if not lies_between(value[0], 1, MOST_SIDE) or not lies_between(value[1], 1, MOST_SIDE):
        raise InvalidShape(value, None)


def _is_look(kind, shape, value):
    """Whether a value is a look at a grid of a kind and a shape."""
    if not isinstance(value, tuple) or len(value) != 2:
        return False
    return _is_column(kind, shape[1], value[0]) and _is_column(kind, shape[0], value[1])


def _is_column(kind, size, value):
    return isinstance(value, Column) and value.kind == kind and len(value) == size


def check_looks(value):
    """That a value is looks."""
    if not isinstance(value, Looks):
        raise NotLooks(value)


def _check_kinds(looks, columns):
    """That columns are of the looks' kind."""
    for column in columns:
        if column.kind != looks.kind:
            raise Unlike(looks.kind, column.kind)


def _check_width(looks, column):
    """That a column is as long as the hidden grid is wide."""
    if len(column) != looks.shape[1]:
        raise InvalidShape(looks.shape, column.shape)


def check_column_beside(looks, column):
    """That a value is a column that the hidden grid can be asked to lead."""
    check_column(column)
    _check_kinds(looks, (column,))
    _check_width(looks, column)


def _check_fitting(looks):
    """That a value is looks which some grid fits."""
    if quarrel(looks) is not None:
        raise Quarrels()


def _looked(looks):
    """The list of the entries of the looked x."""
    return [x.entries for x, _ in looks.pairs]


def _side_by_side(looks):
    """For each place of the hidden grid the row of what stands there in the looked x; also if there are no looks."""
    return [tuple([entries[place] for entries in _looked(looks)]) for place in range(looks.shape[1])]


def _sum_of_seen(looks, numbers):
    """The sum of numbers times the looked y."""
    total = Column((nought(looks.kind),) * looks.shape[0])
    for at, number in enumerate(numbers):
        total = total + looks.pairs[at][1] * number
    return total


def numbers_to(looks, column):
    """Numbers by which the looked x add up to a column; None if there are none."""
    return solved(looks.kind, _side_by_side(looks), column.entries)


def quarrel(looks):
    """Numbers by which the looked x add up to nought, and the y do not; None if there are none."""
    check_looks(looks)
    for numbers in nought_rows(looks.kind, _side_by_side(looks), len(looks.pairs)):
        # If all of these lead the y to nought, so do all others, which are sums of them.
        if _sum_of_seen(looks, numbers):
            return numbers
    return None


def fitting(looks):
    """A grid that fits; None if there is none."""
    if quarrel(looks) is not None:
        return None
    height, width = looks.shape
    if not looks.pairs:
        return Grid(((nought(looks.kind),) * width,) * height)
    rows = [solved(looks.kind, _looked(looks), [y.entries[k] for _, y in looks.pairs]) for k in range(height)]
    return Grid(tuple(rows))


def fits(looks, grid):
    """Whether a grid fits all looks."""
    check_looks(looks)
    check_grid(grid)
    if grid.kind != looks.kind or grid.shape != looks.shape:
        return False
    return all([grid * x == y for x, y in looks.pairs])


def sure(looks, column):
    """What all grids that fit lead a column to; None if that is not the same."""
    check_looks(looks)
    check_column_beside(looks, column)
    _check_fitting(looks)
    return _sure_of(looks, column)


def _sure_of(looks, column):
    numbers = numbers_to(looks, column)
    return None if numbers is None else _sum_of_seen(looks, numbers)


def sure_places(looks):
    """The ascending tuple of the indexes of the columns of the hidden grid that are sure."""
    _check_fitting(looks)
    columns = [Column(row) for row in one_rows(looks.kind, looks.shape[1])]
    return tuple([place for place, column in enumerate(columns) if numbers_to(looks, column) is not None])


def looks_left(looks):
    """How many looks more are the fewest that can make all columns sure."""
    _check_fitting(looks)
    return looks.shape[1] - len(base_rows(_looked(looks), looks.shape[1]))


def free_numbers(looks):
    """How many numbers of the hidden grid are free."""
    left = looks_left(looks)
    return looks.shape[0] * left


def ranks(looks):
    """The pair of the least and the greatest rank of the grids that fit."""
    left = looks_left(looks)
    least = len(base_rows([y.entries for _, y in looks.pairs], looks.shape[0]))
    return least, min(looks.shape[0], least + left)


def fitting_number(looks, rank):
    """How many grids of a rank fit, by a prime."""
    check_looks(looks)
    check_between(rank, 0, MOST_SIDE)
    check_rests((looks,))
    least, _ = ranks(looks)
    left, prime = looks_left(looks), modulus_of(looks.kind)
    if rank < least:
        return 0
    # What the free columns add to the seen ones are the grids of a rank that have no row for each seen free column.
    more, rows = rank - least, looks.shape[0] - least
    pairs = falling_product(prime, rows, more) * falling_product(prime, left, more)
    return raised(1, prime, least * left) * (pairs // falling_product(prime, more, more))


def _check_square(looks):
    """That the hidden grid is square."""
    if looks.shape[0] != looks.shape[1]:
        raise NotSquare(looks.shape)


def even_fitting(looks):
    """An even grid that fits; None if there is none."""
    check_looks(looks)
    _check_square(looks)
    size = looks.shape[0]
    columns = tuple([x for x, _ in looks.pairs]) + tuple([Column(row) for row in one_rows(looks.kind, size)])
    seen = {at: y for at, (_, y) in enumerate(looks.pairs)}
    base = chosen(columns)
    turning = from_columns(tuple([columns[at] for at in base]))
    back = Grid(inverse_rows(looks.kind, turning.rows))
    table = Grid(tuple([tuple([_told_product(columns, seen, at, other) for other in base]) for at in base]))
    grid = back.turned * table * back
    return grid if is_even(table) and fits(looks, grid) else None


def _told_product(columns, seen, at, other):
    """The sum of products of one column and of what an even grid leads another one to; nought if this is free."""
    if other in seen:
        return dot(columns[at], seen[other])
    return dot(columns[other], seen[at]) if at in seen else nought(columns[at].kind)


def even_sure(looks, row, column):
    """The sum of products of one column and of what all even grids that fit lead another one to; None if not one."""
    check_looks(looks)
    check_column(row)
    check_column(column)
    _check_kinds(looks, (row, column))
    _check_square(looks)
    _check_width(looks, row)
    _check_width(looks, column)
    if even_fitting(looks) is None:
        raise Quarrels()
    # An even grid leads the one column on to the other as it does the other one to it.
    for one, other in ((row, column), (column, row)):
        worth = _sure_of(looks, other)
        if worth is not None:
            return dot(one, worth)
    return None
