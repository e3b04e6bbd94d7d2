"""How many lattices of columns have an index in that of all, and each by its place.

The plain base of such a lattice has a pivot at each entry (i, i), and above it numbers below it. Row by row, entry by
entry it is told by how many bases go on from there; a place whose pivot is still to come is told by the pair of the
least number that the pivot may be and of how many entries above it are still free.
"""

from gridwright.checks import check_between, check_index, check_square, check_wholes
from gridwright.errors import Nought, TooMany
from gridwright.expanding import determinant
from gridwright.grids import Grid, check_grid
from gridwright.limits import MOST_LISTED, MOST_SIDE
from gridwright.parting import prime_powers_of
from gridwright.reducing import stair_rows
from gridwright.wholes import raised

_MOST_INDEX = 10 ** 12


def lattices_number(size, index):
    """How many lattices of columns of a size have an index in the lattice of all columns."""
    check_between(size, 1, MOST_SIDE)
    check_between(index, 1, _MOST_INDEX)
    total = 1
    for prime, many in prime_powers_of(index):
        total = total * _number_by_prime(size, prime, many)
    return total


def _number_by_prime(size, prime, many):
    """The same for the index that is a prime to the power of so many."""
    counts = [1] + [0] * many
    for place in range(size):
        powers = [raised(1, prime, share * place) for share in range(many + 1)]
        counts = [sum([counts[left - share] * powers[share] for share in range(left + 1)]) for left in range(many + 1)]
    return counts[many]


def _divisors(number):
    return [divisor for divisor in range(1, number + 1) if number % divisor == 0]


def _ways(index, places):
    """How many bases go on, the pivots that are still to come making the index together."""
    ways = {index: 1}
    for least, free in places:
        following = {}
        for left in ways:
            for pivot in _divisors(left):
                if pivot >= least:
                    told = following.get(left // pivot, 0)
                    following[left // pivot] = told + ways[left] * raised(1, pivot, free)
        ways = following
    return ways.get(1, 0)


def _pivot_steps(index, places):
    """For the pivot of the first place: triples of a number, the one above it, and how many bases go on from it."""
    least, _ = places[0]
    return [(pivot, pivot + 1, _ways(index // pivot, places[1:])) for pivot in _divisors(index) if pivot >= least]


def _entry_steps(index, places, at):
    """For an entry above a place's pivot: triples of a first number, one beyond the last, and the bases of each."""
    steps = []
    first = 0
    # Between two divisors nothing changes, as the pivot is a divisor.
    for beyond in _divisors(index):
        steps.append((first, beyond, _ways(index, _with_entry(places, at, beyond - 1))))
        first = beyond
    return steps


def _with_entry(places, at, entry):
    """The places with a number standing above the pivot of one of them."""
    least, free = places[at]
    return places[:at] + [(max(least, entry + 1), free - 1)] + places[at + 1:]


def _told_by(steps, place):
    """The number from which the base with a place goes on, and its place among these."""
    left = place
    for first, beyond, many in steps:
        if left < (beyond - first) * many:
            return first + left // many, left % many
        left = left - (beyond - first) * many


def _many_ahead(steps, number):
    """How many bases go on from lesser numbers."""
    return sum([(min(beyond, number) - first) * many for first, beyond, many in steps if first < number])


def lattice_at(size, index, place):
    """The grid of the plain base with this place among those of an index, ascending by their rows."""
    check_between(size, 1, MOST_SIDE)
    check_between(index, 1, MOST_LISTED)
    check_index(place, lattices_number(size, index))
    rows = []
    left, product = place, index
    places = [(1, above) for above in range(size)]
    for k in range(size):
        pivot, left = _told_by(_pivot_steps(product, places), left)
        product, places = product // pivot, places[1:]
        row = (0,) * k + (pivot,)
        for at in range(len(places)):
            entry, left = _told_by(_entry_steps(product, places, at), left)
            places = _with_entry(places, at, entry)
            row = row + (entry,)
        rows.append(row)
    return Grid(tuple(rows))


def place_of_lattice(grid):
    """The place of a lattice among those of its index."""
    check_grid(grid)
    check_wholes((grid,))
    check_square(grid)
    index = abs(determinant("whole", grid.rows))
    if index == 0:
        raise Nought()
    if index > MOST_LISTED:
        raise TooMany(index)
    total, product = 0, index
    places = [(1, above) for above in range(len(grid))]
    for k, row in enumerate(stair_rows("whole", grid.rows)):
        total = total + _many_ahead(_pivot_steps(product, places), row[k])
        product, places = product // row[k], places[1:]
        for at, entry in enumerate(row[k + 1:]):
            total = total + _many_ahead(_entry_steps(product, places, at), entry)
            places = _with_entry(places, at, entry)
    return total
