"""Tables of minors, each led from the one before it by quotients without rests.

The kinds are whole numbers, fields, and polys over fields.
"""

from gridwright.kinds import coefficient_kind, one, unit_inverse


def _quotient(kind, number, divisor):
    """What times the divisor is the number, which is known to be there."""
    if kind == "whole" or coefficient_kind(kind) is not None:
        return number // divisor
    return number * unit_inverse(divisor)


def next_table(kind, rows, before):
    """The next table behind one with these rows, the first entry of the table before it being given, 1 at first."""
    head = rows[0]
    found = []
    for row in rows[1:]:
        products = [head[0] * row[place] - row[0] * head[place] for place in range(1, len(row))]
        found.append(tuple([_quotient(kind, number, before) for number in products]))
    return tuple(found)


def rank_by_tables(kind, rows):
    """The greatest size of a minor that is not nought."""
    left, before, size = rows, one(kind), 0
    at = _filled_place(left)
    while at is not None:
        left = _brought_ahead(left, at)
        left, before = next_table(kind, left, before), left[0][0]
        at = _filled_place(left)
        size += 1
    return size


def _filled_place(rows):
    """The pair of the row and the place of the first entry that is not nought; None if there is none."""
    for k, row in enumerate(rows):
        for place, number in enumerate(row):
            if number:
                return k, place
    return None


def _brought_ahead(rows, at):
    """The rows with one of them and one of the places put ahead, which changes no more than signs of minors."""
    chosen, place = at
    ordered = (rows[chosen],) + rows[:chosen] + rows[chosen + 1:]
    return tuple([(row[place],) + row[:place] + row[place + 1:] for row in ordered])
