"""Grids of rests by powers of primes: parted, put together, lifted and counted."""

from math import gcd

from gridwright.checks import check_between, check_index, check_prime, check_rests, check_square, check_wholes
from gridwright.errors import InvalidGrids, InvalidNumber, NoInverse, TooMany
from gridwright.grids import Grid, check_grid, one_grid
from gridwright.inverting import inverse_rows
from gridwright.leading import led, to_whole
from gridwright.limits import MOST_MODULUS, MOST_SIDE
from gridwright.parting import prime_powers_of
from gridwright.rests import Rest, joined
from gridwright.scalars import modulus_of
from gridwright.stairs import falling_product
from gridwright.stepping import base_rows
from gridwright.wholes import is_prime, lies_between, raised

_MOST_GRIDS = 8
_MOST_POWER = 20
_MOST_SIZE_AT = 3
_MOST_PRIME_AT = 7


def parted(grid):
    """The tuple of a grid of rests led to the greatest powers of primes in its modulus."""
    check_grid(grid)
    check_rests((grid,))
    powers = [raised(1, prime, many) for prime, many in prime_powers_of(modulus_of(grid.kind))]
    return tuple([led(grid, f"rest {power}") for power in powers])


def _check_grids_of_rests(grids):
    """That a value is a tuple of one to eight grids of rests, of one shape, by moduli without common divisors."""
    if not isinstance(grids, tuple) or not grids:
        raise InvalidGrids(None)
    product = 1
    for index, grid in enumerate(grids):
        if index == _MOST_GRIDS or not isinstance(grid, Grid) or modulus_of(grid.kind) is None:
            raise InvalidGrids(index)
        if grid.shape != grids[0].shape or gcd(modulus_of(grid.kind), product) > 1:
            raise InvalidGrids(index)
        product = product * modulus_of(grid.kind)


def put_together(grids):
    """The grid by the product of the moduli that leads to all of these."""
    _check_grids_of_rests(grids)
    product = 1
    for grid in grids:
        product = product * modulus_of(grid.kind)
    if product > MOST_MODULUS:
        raise TooMany(product)
    rows = grids[0].rows
    for grid in grids[1:]:
        rows = [[joined(row[k], entry) for k, entry in enumerate(grid.rows[at])] for at, row in enumerate(rows)]
    return Grid(tuple([tuple(row) for row in rows]))


def lifted_inverse(grid, prime, power):
    """The inverse of a whole square grid by a prime to a power, as numbers from 0 on."""
    check_grid(grid)
    check_prime(prime)
    check_between(power, 1, _MOST_POWER)
    check_wholes((grid,))
    check_square(grid)
    rows = inverse_rows(f"rest {prime}", led(grid, f"rest {prime}").rows)
    if rows is None:
        raise NoInverse()
    _, found = to_whole(Grid(rows))
    lifted = 1
    while lifted < power:
        lifted = min(2 * lifted, power)
        # Squared, what still differs from the one grid is nought by twice the power (Hensel).
        found = _by(found * (one_grid("whole", len(grid)) * 2 - grid * found), raised(1, prime, lifted))
    return found


def _by(grid, modulus):
    """A whole grid with the rests of its numbers."""
    return Grid(tuple([tuple([entry % modulus for entry in row]) for row in grid.rows]))


def turnings_number(size, modulus):
    """How many turning grids of a size there are by a modulus."""
    check_between(size, 1, MOST_SIDE)
    check_between(modulus, 2, MOST_MODULUS)
    number = 1
    for prime, many in prime_powers_of(modulus):
        number = number * falling_product(prime, size, size) * raised(1, prime, (many - 1) * size * size)
    return number


def turning_at(size, prime, index):
    """The turning grid by a prime with this index, ascending by rows as tuples of numbers."""
    check_between(size, 1, _MOST_SIZE_AT)
    if not lies_between(prime, 2, _MOST_PRIME_AT) or not is_prime(prime):
        raise InvalidNumber(prime)
    check_index(index, turnings_number(size, prime))
    rows, left, number = (), index, turnings_number(size, prime)
    for _ in range(size):
        free = _free_rows(rows, size, prime)
        # However a row is chosen, as many grids go on from it.
        number = number // len(free)
        rows, left = rows + (free[left // number],), left % number
    return Grid(rows)


def _free_rows(rows, size, prime):
    """The ascending list of the rows that are no sum of numbers times these, which are free."""
    every = [()]
    for _ in range(size):
        every = [ahead + (Rest(number, prime),) for ahead in every for number in range(prime)]
    return [row for row in every if len(base_rows(rows + (row,), size)) > len(rows)]
