"""Rows of numbers of one kind, as tuples, and what is done with them.

No argument is checked here, and there may be more than eight rows, so that grids that are only thought of have a place.
"""

from gridwright.kinds import kind_or_none, nought, number_of, number_or_none, written


def joined_kind(kind, value):
    """The kind of numbers of one kind, `whole` for whole ones alone, and a value more; None if it does not fit.

    Behind what does not fit, where the kind is None, nothing does.
    """
    own = kind_or_none(value)
    if kind == "whole":
        return own
    return kind if own in (kind, "whole") else None


def row_text(row):
    """The texts of a row's numbers, with single spaces between."""
    return " ".join([written(number) for number in row])


def row_or_none(kind, text):
    """The numbers of the kind with this text, a string; None if there are none."""
    numbers = [number_or_none(kind, part) for part in text.split(" ")]
    return None if any([number is None for number in numbers]) else tuple(numbers)


def row_sum(row, other):
    """The sums of two rows' numbers."""
    return tuple([row[k] + other[k] for k in range(len(row))])


def row_times(row, number):
    """A number times each number of a row."""
    return tuple([number * entry for entry in row])


def row_less(row, other, number):
    """A row less a number times another one."""
    return tuple([row[k] - number * other[k] for k in range(len(row))])


def sum_of_products(zero, row, other):
    """The sum of the products of two rows' numbers, added to the nought of their kind."""
    total = zero
    for k in range(len(row)):
        total = total + row[k] * other[k]
    return total


def turned_rows(rows):
    """The rows turned over."""
    return tuple([tuple([row[place] for row in rows]) for place in range(len(rows[0]))])


def sums_by_rows(kind, rows, numbers):
    """For each row the sum of the products of its numbers and these."""
    zero = nought(kind)
    return tuple([sum_of_products(zero, row, numbers) for row in rows])


def product_rows(kind, rows, others):
    """The rows of a product."""
    return turned_rows([sums_by_rows(kind, rows, column) for column in turned_rows(others)])


def one_rows(kind, size):
    """The rows of the one grid."""
    numbers = (number_of(kind, 0), number_of(kind, 1))
    return tuple([tuple([numbers[1 if i == j else 0] for j in range(size)]) for i in range(size)])


def rows_beside(rows, others):
    """Rows, each with one of as many others behind it."""
    return tuple([rows[k] + others[k] for k in range(len(rows))])


def are_noughts(row):
    """Whether all numbers of a row are nought."""
    return not any([bool(number) for number in row])


def ascending_tuples(many, size):
    """The ascending list of all ascending tuples of so many numbers from 0 to one less than `many`."""
    found = [()]
    for _ in range(size):
        found = [ahead + (k,) for ahead in found for k in range(ahead[-1] + 1 if ahead else 0, many)]
    return found
