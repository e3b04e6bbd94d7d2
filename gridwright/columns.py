"""Columns: one to eight numbers of one kind, one below the other."""

from gridwright.checks import check_alike_kinds, check_between, check_index, check_same_shape
from gridwright.errors import InvalidColumns, InvalidEntries, InvalidText, NotAColumn
from gridwright.kinds import check_kind, is_kind, nought, number_in, number_of
from gridwright.limits import MOST_SIDE
from gridwright.tables import joined_kind, row_or_none, row_sum, row_text, row_times, sum_of_products


class Column:
    """One to eight numbers of one kind."""

    def __init__(self, entries):
        if not isinstance(entries, tuple) or not entries:
            raise InvalidEntries(None)
        kind = "whole"
        for index, entry in enumerate(entries):
            kind = joined_kind(kind, entry) if index < MOST_SIDE else None
            if kind is None:
                raise InvalidEntries(index)
        self.entries = tuple([number_in(kind, entry) for entry in entries])
        self.kind = kind
        self.shape = (len(entries), 1)

    @staticmethod
    def read(text):
        """The column with this text."""
        column = column_or_none(text)
        if column is None:
            raise InvalidText(text)
        return column

    @property
    def text(self):
        """The word `column`, the kind, and the numbers."""
        return f"column {self.kind}: {row_text(self.entries)}"

    def __eq__(self, other):
        return isinstance(other, Column) and self.kind == other.kind and self.entries == other.entries

    def __bool__(self):
        return any([bool(entry) for entry in self.entries])

    def __len__(self):
        return len(self.entries)

    def __add__(self, other):
        if not isinstance(other, Column):
            return NotImplemented
        check_alike_kinds((self, other))
        check_same_shape(self, other)
        return Column(row_sum(self.entries, other.entries))

    def __sub__(self, other):
        if not isinstance(other, Column):
            return NotImplemented
        return self + (-other)

    def __mul__(self, other):
        number = number_in(self.kind, other)
        if number is None:
            return NotImplemented
        return Column(row_times(self.entries, number))

    def __rmul__(self, other):
        number = number_in(self.kind, other)
        if number is None:
            return NotImplemented
        return self * number

    def __neg__(self):
        return Column(tuple([-entry for entry in self.entries]))

    def entry(self, index):
        """The entry at an index."""
        check_index(index, len(self.entries))
        return self.entries[index]


def column_or_none(text):
    """The column with this text, which may be any value; None if there is none."""
    if not isinstance(text, str) or not text.startswith("column "):
        return None
    kind, _, inner = text[7:].partition(": ")
    row = row_or_none(kind, inner) if is_kind(kind) else None
    return None if row is None or len(row) > MOST_SIDE else Column(row)


def check_column(value):
    """That a value is a column."""
    if not isinstance(value, Column):
        raise NotAColumn(value)


def check_columns(values):
    """That a value is a tuple of one or more columns of one kind and size."""
    if not isinstance(values, tuple) or not values:
        raise InvalidColumns(None)
    for index, value in enumerate(values):
        if not isinstance(value, Column) or value.kind != values[0].kind or value.shape != values[0].shape:
            raise InvalidColumns(index)


def dot(column, other):
    """The sum of the products of two columns' entries."""
    check_column(column)
    check_column(other)
    check_alike_kinds((column, other))
    check_same_shape(column, other)
    return sum_of_products(nought(column.kind), column.entries, other.entries)


def unit_column(kind, size, index):
    """The column with 1 at the index and 0 elsewhere."""
    check_kind(kind)
    check_between(size, 1, MOST_SIDE)
    check_index(index, size)
    return Column(tuple([number_of(kind, 1 if k == index else 0) for k in range(size)]))
