"""Groups that are told by relations."""

from math import gcd, lcm

from gridwright.blocks import put_blocks
from gridwright.checks import check_as_long, check_wholes
from gridwright.columns import Column, check_column
from gridwright.coring import core_turnings_of, cores_of
from gridwright.errors import InvalidNumber, NotAGroup, TooMany
from gridwright.grids import Grid, check_grid
from gridwright.inverting import inverse_rows
from gridwright.lattices import plain_base, plain_member
from gridwright.limits import MOST_LISTED, MOST_SIDE
from gridwright.parting import prime_powers_of
from gridwright.ratios import Ratio
from gridwright.stepping import solved
from gridwright.tables import turned_rows
from gridwright.wholes import is_whole_number, raised


class Group:
    """The whole columns, two being the same if their difference is in the lattice of the relations."""

    def __init__(self, relations):
        check_grid(relations)
        check_wholes((relations,))
        cores = cores_of("whole", relations.rows)
        self.relations = relations
        self.width = relations.shape[1]
        self.sizes = tuple([core for core in cores if core != 1]) + (0,) * (self.width - len(cores))
        self.number = _number_of(self.sizes)
        self._base = plain_base(relations)

    @property
    def prime_sizes(self):
        """The greatest powers of primes in the sizes, ascending, and then the noughts."""
        found = []
        for size in self.sizes:
            if size > 0:
                for prime, many in prime_powers_of(size):
                    found.append(raised(1, prime, many))
        return tuple(sorted(found) + [size for size in self.sizes if size == 0])

    @property
    def text(self):
        """The sizes with single spaces between, 1 for none."""
        return " ".join([str(size) for size in self.sizes]) if self.sizes else "1"

    def __eq__(self, other):
        return isinstance(other, Group) and self.width == other.width and self._base == other._base

    def plain(self, column):
        """The plain member that is the same as a column."""
        return plain_member(self.relations, column)

    def order_of(self, column):
        """The least number from 1 on that times a column is the same as nought; None if there is none."""
        _check_member(self, column)
        rows = [tuple([Ratio(entry) for entry in row.entries]) for row in self._base]
        ahead = turned_rows(rows) if rows else [()] * self.width
        numbers = solved("ratio", ahead, [Ratio(entry) for entry in column.entries])
        if numbers is None:
            return None
        order = 1
        for number in numbers:
            order = lcm(order, number.bottom)
        return order


def _number_of(sizes):
    """The product of sizes; None with a nought, as there is no end then."""
    number = 1
    for size in sizes:
        number = number * size
    return None if number == 0 else number


def _check_member(group, column):
    """That a value is a whole column as long as a group's relations are wide."""
    check_column(column)
    check_wholes((column,))
    check_as_long(group.relations, column)


def _check_group(value):
    """That a value is a group."""
    if not isinstance(value, Group):
        raise NotAGroup(value)


def are_alike(group, other):
    """Whether two groups have the same sizes."""
    _check_group(group)
    _check_group(other)
    return group.sizes == other.sizes


def members(group):
    """The ascending tuple of the entries of all plain members."""
    _check_group(group)
    if group.number is None or group.number > MOST_LISTED:
        raise TooMany(group.number)
    found = [()]
    for place, row in enumerate(plain_base(group.relations)):
        found = [ahead + (entry,) for ahead in found for entry in range(row.entries[place])]
    return tuple(found)


def count_of_order(group, order):
    """How many members have an order."""
    _check_group(group)
    if not is_whole_number(order) or order < 1:
        raise InvalidNumber(order)
    ends = [size for size in group.sizes if size > 0]
    # Each order divides the last size, so no other number has to be parted.
    if (ends[-1] if ends else 1) % order != 0:
        return 0
    total = 1
    for prime, many in prime_powers_of(order):
        power = raised(1, prime, many)
        total = total * (_vanishing(ends, power) - _vanishing(ends, power // prime))
    return total


def _vanishing(sizes, times):
    """How many members of a group with these sizes vanish so many times."""
    number = 1
    for size in sizes:
        number = number * gcd(size, times)
    return number


def leads_number(group, other):
    """How many maps from one group to another leave sums sums; None if there is no end of them."""
    _check_group(group)
    _check_group(other)
    number = 1
    for size in group.sizes:
        for other_size in other.sizes:
            # What comes to nought after so many times can be led only to what does, too.
            number = number * (1 if size > 0 and other_size == 0 else gcd(size, other_size))
    return None if number == 0 else number


def makers(group):
    """As few members as can be of which all others are sums, each a whole number of times."""
    _check_group(group)
    _, right = core_turnings_of("whole", group.relations.rows)
    # The members turned by the right grid have each size at a place of its own, behind those with the cores 1.
    rows = inverse_rows("whole", right)
    return tuple([Column(row) for row in rows[group.width - len(group.sizes):]])


def group_sum(group, other):
    """The group of the relations of two groups put as blocks."""
    _check_group(group)
    _check_group(other)
    height = len(group.relations) + len(other.relations)
    side = max(height, group.width + other.width)
    if side > MOST_SIDE:
        raise TooMany(side)
    return Group(put_blocks((group.relations, other.relations)))


def without(group, column):
    """The group with a column as one relation more."""
    _check_group(group)
    _check_member(group, column)
    rows = group.relations.rows + (column.entries,)
    if len(rows) > MOST_SIDE:
        raise TooMany(len(rows))
    return Group(Grid(rows))
