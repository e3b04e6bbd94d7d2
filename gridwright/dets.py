"""Determinants: by their definition, along a row, by the walk, by the tables, and by rests."""

from gridwright.checks import check_index, check_square, check_wholes
from gridwright.errors import InvalidNumber, InvalidPairs, NoTriangles, NotAField, Quarrels, TooFew, TooMany
from gridwright.expanding import determinant, side_rows
from gridwright.grids import Grid, check_grid, order_sign
from gridwright.kinds import is_field, nought, one
from gridwright.quotients import next_table
from gridwright.wholes import inverse_by_whole, is_prime, is_whole_number, lies_between, next_prime

_MOST_BY_ORDERS = 6
_MOST_TOLD_PRIME = 1000
_MOST_PAIRS = 60


def _check_square_grid(grid):
    check_grid(grid)
    check_square(grid)


def det(grid):
    """The determinant of a square grid of any kind."""
    _check_square_grid(grid)
    return determinant(grid.kind, grid.rows)


def det_by_orders(grid):
    """The determinant by its definition: the sum of all products of one entry from each row and place, with signs."""
    _check_square_grid(grid)
    if len(grid) > _MOST_BY_ORDERS:
        raise TooMany(len(grid))
    total = nought(grid.kind)
    for order in _orders(len(grid)):
        product = one(grid.kind) * order_sign(order)
        for k, place in enumerate(order):
            product = product * grid.rows[k][place]
        total = total + product
    return total


def _orders(many):
    """The list of all orders of so many."""
    found = [()]
    for _ in range(many):
        found = [ahead + (place,) for ahead in found for place in range(many) if place not in ahead]
    return found


def det_along(grid, index):
    """The pairs of the entries of a row and of the side grid's entries whose products add up to the determinant."""
    check_grid(grid)
    check_index(index, len(grid))
    check_square(grid)
    side = side_rows(grid.kind, grid.rows)
    return tuple([(entry, side[place][index]) for place, entry in enumerate(grid.rows[index])])


def det_walk(grid):
    """The grid, and what F leads each time to, as many grids as the size; F needs no quotient."""
    _check_square_grid(grid)
    walk = [grid]
    for _ in range(len(grid) - 1):
        walk.append(_walk_grid(walk[-1]) * grid)
    return tuple(walk)


def _walk_grid(grid):
    """The grid by which F multiplies: entries above (i, i), there less those further on added up, below noughts."""
    total, size = nought(grid.kind), len(grid)
    rows = []
    for k in reversed(range(size)):
        rows.append(tuple([nought(grid.kind) for _ in range(k)]) + (-total,) + grid.rows[k][k + 1:])
        total = total + grid.rows[k][k]
    return Grid(tuple(rows[::-1]))


def det_tables(grid):
    """The tuple of the tables of minors of a square grid, over whole numbers or a field."""
    check_grid(grid)
    if grid.kind != "whole" and not is_field(grid.kind):
        raise NotAField(grid.kind)
    check_square(grid)
    tables = [grid.rows]
    before = one(grid.kind)
    for size in range(1, len(grid)):
        first = tables[-1][0][0]
        if not first:
            raise NoTriangles(size)
        tables.append(next_table(grid.kind, tables[-1], before))
        before = first
    return tuple([Grid(rows) for rows in tables])


def _check_whole_square(grid):
    check_grid(grid)
    check_wholes((grid,))
    check_square(grid)


def det_bound(grid):
    """The product, over the rows of a whole square grid, of the sums of the sizes of their entries."""
    _check_whole_square(grid)
    bound = 1
    for row in grid.rows:
        bound = bound * sum([abs(entry) for entry in row])
    return bound


def det_rests(grid):
    """The pairs of the first primes, up to a product above twice the bound, and of the determinant's rests by them."""
    _check_whole_square(grid)
    number, bound = determinant("whole", grid.rows), det_bound(grid)
    pairs = [(2, number % 2)]
    together, prime = 2, 2
    while together <= 2 * bound:
        prime = next_prime(prime)
        together = together * prime
        pairs.append((prime, number % prime))
    return tuple(pairs)


def from_rests(pairs, bound):
    """The one whole number from -bound to bound that has told rests by told primes."""
    _check_pairs(pairs)
    if not is_whole_number(bound) or bound < 0:
        raise InvalidNumber(bound)
    number, together = 0, 1
    for prime, rest in pairs:
        steps = (rest - number) * inverse_by_whole(together, prime) % prime
        number, together = number + together * steps, together * prime
    if together <= 2 * bound:
        raise TooFew(together)
    if number > bound:
        number = number - together
    if number < -bound:
        raise Quarrels()
    return number


def _check_pairs(pairs):
    """That a value is a tuple of one to sixty pairs of unlike primes and of numbers below them."""
    if not isinstance(pairs, tuple) or not pairs:
        raise InvalidPairs(None)
    for index, pair in enumerate(pairs):
        if index == _MOST_PAIRS or not _is_prime_pair(pair):
            raise InvalidPairs(index)
        if any([prime == pair[0] for prime, _ in pairs[:index]]):
            raise InvalidPairs(index)


def _is_prime_pair(value):
    """Whether a value is a pair of a prime and a number from 0 to one less than it."""
    if not isinstance(value, tuple) or len(value) != 2 or not lies_between(value[0], 2, _MOST_TOLD_PRIME):
        return False
    return is_prime(value[0]) and lies_between(value[1], 0, value[0] - 1)
