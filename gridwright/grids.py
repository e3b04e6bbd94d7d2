"""Grids: one to eight rows of one to eight numbers each, all of one kind."""

from gridwright.checks import check_alike_kinds, check_between, check_index, check_same_shape, check_square
from gridwright.columns import Column, check_columns
from gridwright.errors import (
    InvalidColumns, InvalidEntries, InvalidIndex, InvalidOrder, InvalidRows, InvalidShape, InvalidText, NoInverse,
    NotAGrid,
)
from gridwright.inverting import inverse_rows
from gridwright.kinds import check_kind, is_kind, nought, number_in
from gridwright.limits import MOST_FAR, MOST_POWER, MOST_SIDE
from gridwright.scalars import modulus_of
from gridwright.tables import (
    are_noughts, joined_kind, one_rows, product_rows, row_or_none, row_sum, row_text, row_times, sums_by_rows,
    turned_rows,
)
from gridwright.wholes import is_whole_number, lies_between, raised


class Grid:
    """Rows of numbers of one kind."""

    def __init__(self, rows):
        if not isinstance(rows, tuple) or not rows:
            raise InvalidRows(None)
        kind = "whole"
        for index, row in enumerate(rows):
            kind = _kind_with_row(kind, rows[0], row) if index < MOST_SIDE else None
            if kind is None:
                raise InvalidRows(index)
        self.rows = tuple([tuple([number_in(kind, entry) for entry in row]) for row in rows])
        self.kind = kind
        self.shape = (len(rows), len(rows[0]))

    @staticmethod
    def read(text):
        """The grid with this text."""
        grid = grid_or_none(text)
        if grid is None:
            raise InvalidText(text)
        return grid

    @property
    def columns(self):
        """The tuple of the columns."""
        return tuple([Column(entries) for entries in turned_rows(self.rows)])

    @property
    def is_square(self):
        """Whether there are as many rows as places."""
        return self.shape[0] == self.shape[1]

    @property
    def turned(self):
        """The grid turned over."""
        return Grid(turned_rows(self.rows))

    @property
    def text(self):
        """The word `grid`, the kind, and the rows."""
        inner = "; ".join([row_text(row) for row in self.rows])
        return f"grid {self.kind}: {inner}"

    def __eq__(self, other):
        return isinstance(other, Grid) and self.kind == other.kind and self.rows == other.rows

    def __bool__(self):
        return any([not are_noughts(row) for row in self.rows])

    def __len__(self):
        return len(self.rows)

    def __getitem__(self, at):
        if not _is_place(at, self.shape):
            raise InvalidIndex(at)
        return self.rows[at[0]][at[1]]

    def __iter__(self):
        raise TypeError("a grid is not iterated over")

    def __add__(self, other):
        if not isinstance(other, Grid):
            return NotImplemented
        check_alike_kinds((self, other))
        check_same_shape(self, other)
        return Grid(tuple([row_sum(row, other.rows[k]) for k, row in enumerate(self.rows)]))

    def __sub__(self, other):
        if not isinstance(other, Grid):
            return NotImplemented
        return self + (-other)

    def __mul__(self, other):
        if isinstance(other, Grid):
            check_product(self, other)
            return Grid(product_rows(self.kind, self.rows, other.rows))
        if isinstance(other, Column):
            check_product(self, other)
            return Column(sums_by_rows(self.kind, self.rows, other.entries))
        number = number_in(self.kind, other)
        if number is None:
            return NotImplemented
        return Grid(tuple([row_times(row, number) for row in self.rows]))

    def __rmul__(self, other):
        number = number_in(self.kind, other)
        if number is None:
            return NotImplemented
        return self * number

    def __pow__(self, other):
        return self.power(other)

    def __neg__(self):
        return Grid(tuple([tuple([-entry for entry in row]) for row in self.rows]))

    def power(self, exponent):
        """The grid to the power of an exponent, which may be below 0 if there is an inverse."""
        most = MOST_POWER if modulus_of(self.kind) is None else MOST_FAR
        check_between(exponent, -most, most)
        check_square(self)
        rows = self.rows if exponent >= 0 else inverse_rows(self.kind, self.rows)
        if rows is None:
            raise NoInverse()
        return raised(one_grid(self.kind, len(rows)), Grid(rows), abs(exponent))

    def row(self, index):
        """The row at an index, as a column."""
        check_index(index, len(self.rows))
        return Column(self.rows[index])


def _kind_with_row(kind, first, row):
    """The kind of numbers of one kind and a row's, which is to be as long as the first one; None if it does not fit."""
    if not isinstance(row, tuple) or not lies_between(len(row), 1, MOST_SIDE) or len(row) != len(first):
        return None
    for entry in row:
        kind = joined_kind(kind, entry)
    return kind


def _is_place(value, shape):
    """Whether a value is a pair of an index of a row and one of a place."""
    if not isinstance(value, tuple) or len(value) != 2:
        return False
    return lies_between(value[0], 0, shape[0] - 1) and lies_between(value[1], 0, shape[1] - 1)


def check_product(grid, other):
    """That a grid fits ahead of another one, or of a column."""
    check_alike_kinds((grid, other))
    if grid.shape[1] != other.shape[0]:
        raise InvalidShape(grid.shape, other.shape)


def grid_or_none(text):
    """The grid with this text, which may be any value; None if there is none."""
    if not isinstance(text, str) or not text.startswith("grid "):
        return None
    kind, _, inner = text[5:].partition(": ")
    rows = [row_or_none(kind, part) for part in inner.split("; ")] if is_kind(kind) else [None]
    if any([row is None for row in rows]) or len(rows) > MOST_SIDE or len(rows[0]) > MOST_SIDE:
        return None
    return Grid(tuple(rows)) if all([len(row) == len(rows[0]) for row in rows]) else None


def check_grid(value):
    """That a value is a grid."""
    if not isinstance(value, Grid):
        raise NotAGrid(value)


def one_grid(kind, size):
    """The square grid with 1 at the entries (i, i) and 0 elsewhere."""
    check_kind(kind)
    check_between(size, 1, MOST_SIDE)
    return Grid(one_rows(kind, size))


def nought_grid(kind, height, width):
    """The grid of noughts alone."""
    check_kind(kind)
    check_between(height, 1, MOST_SIDE)
    check_between(width, 1, MOST_SIDE)
    row = tuple([nought(kind) for _ in range(width)])
    return Grid(tuple([row for _ in range(height)]))


def diagonal_grid(kind, entries):
    """The square grid with these numbers at the entries (i, i)."""
    check_kind(kind)
    if not isinstance(entries, tuple) or not entries:
        raise InvalidEntries(None)
    for index, entry in enumerate(entries):
        if index == MOST_SIDE or number_in(kind, entry) is None:
            raise InvalidEntries(index)
    rows = one_rows(kind, len(entries))
    return Grid(tuple([row_times(row, entries[k]) for k, row in enumerate(rows)]))


def _check_few_columns(columns):
    """That a value is a tuple of columns of one kind and size, not more than stand in a grid."""
    check_columns(columns[:MOST_SIDE] if isinstance(columns, tuple) else columns)
    if len(columns) > MOST_SIDE:
        raise InvalidColumns(MOST_SIDE)


def from_columns(columns):
    """The grid that has these columns."""
    _check_few_columns(columns)
    return Grid(turned_rows([column.entries for column in columns]))


def from_rows(columns):
    """The grid whose rows these columns are."""
    _check_few_columns(columns)
    return Grid(tuple([column.entries for column in columns]))


def _check_order(value):
    """That a value is a tuple of the numbers from 0 to n - 1, each once, n from 1 to 8."""
    if not isinstance(value, tuple) or not lies_between(len(value), 1, MOST_SIDE):
        raise InvalidOrder(value)
    if not all([is_whole_number(place) for place in value]) or sorted(value) != list(range(len(value))):
        raise InvalidOrder(value)


def exchange_grid(order):
    """The whole grid with the 1 of each row i at the place order[i]."""
    _check_order(order)
    rows = one_rows("whole", len(order))
    return Grid(tuple([rows[place] for place in order]))


def order_sign(order):
    """1 if an even number of the order's pairs stand the other way round than by size, otherwise -1."""
    _check_order(order)
    turned = [k for k in range(len(order)) for place in order[:k] if place > order[k]]
    return 1 if len(turned) % 2 == 0 else -1


def trace(grid):
    """The sum of the entries (i, i) of a square grid."""
    check_grid(grid)
    check_square(grid)
    total = nought(grid.kind)
    for k, row in enumerate(grid.rows):
        total = total + row[k]
    return total


def is_upper(grid):
    """Whether all entries (i, j) with i above j are nought."""
    check_grid(grid)
    return all([are_noughts(row[:k]) for k, row in enumerate(grid.rows)])


def is_lower(grid):
    """Whether all entries (i, j) with i below j are nought."""
    check_grid(grid)
    return all([are_noughts(row[k + 1:]) for k, row in enumerate(grid.rows)])


def is_diagonal(grid):
    """Whether all entries (i, j) with i and j unlike are nought."""
    return is_upper(grid) and is_lower(grid)


def is_even(grid):
    """Whether a grid is itself turned over."""
    check_grid(grid)
    return grid == grid.turned
