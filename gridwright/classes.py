"""How many block forms there are, how many grids are alike, and after how many steps a grid comes round."""

from gridwright.checks import check_between, check_fields, check_prime, check_rests, check_square
from gridwright.errors import NoInverse, NotRests, TooMany
from gridwright.followers import core_polys
from gridwright.grids import check_grid
from gridwright.limits import MOST_MODULUS, MOST_PRIME, MOST_SIDE
from gridwright.returning import round_of_letter
from gridwright.rounds import least_poly
from gridwright.scalars import modulus_of
from gridwright.sides import is_turning
from gridwright.singles import singles
from gridwright.stairs import falling_product
from gridwright.wholes import raised


def round_number(grid):
    """The least k from 1 on for which a turning grid by a prime to the power k is the one grid."""
    check_grid(grid)
    check_rests((grid,))
    check_fields((grid,))
    check_square(grid)
    if not is_turning(grid):
        raise NoInverse()
    number = raised(1, modulus_of(grid.kind), len(grid))
    if number > MOST_MODULUS:
        raise TooMany(number)
    return round_of_letter(least_poly(grid))


def class_number(prime, size):
    """How many unlike block forms of a size there are by a prime."""
    check_prime(prime)
    check_between(size, 1, MOST_SIDE)
    return sum([raised(1, prime, greatest) * _sums(size - greatest, greatest) for greatest in range(1, size + 1)])


def _sums(number, most):
    """In how many ways a number from 0 on is a sum of numbers from 1 to `most`, without regard to order."""
    if number == 0:
        return 1
    return sum([_sums(number - share, share) for share in range(1, min(number, most) + 1)])


def alike_number(grid):
    """How many grids are alike to a square grid by a prime below 100."""
    check_grid(grid)
    check_rests((grid,))
    check_fields((grid,))
    prime, size = modulus_of(grid.kind), len(grid)
    if prime >= MOST_PRIME:
        raise NotRests(grid.kind)
    commuting = 1
    for degree, shares in _shares_of_singles(core_polys(grid)):
        commuting = commuting * _commuting_turnings(raised(1, prime, degree), shares)
    return falling_product(prime, size, size) // commuting


def _shares_of_singles(polys):
    """For each single the pair of its degree and of how often it is a part of the core polys that have it."""
    found = {}
    for poly in polys:
        for single, many in singles(poly):
            degree, shares = found.get(single.text, (single.degree, ()))
            found[single.text] = (degree, shares + (many,))
    return list(found.values())


def _commuting_turnings(rests, shares):
    """How many turning grids commute with a grid, one single being a part of its core polys, so often of each.

    By the single there are so many rests. Whether a grid that commutes is a turning one is told, for each share, by a
    square grid of such rests, with as many rows as core polys have this share; all else in it is free.
    """
    free, turnings = sum([min(share, other) for share in shares for other in shares]), 1
    sizes = {}
    for share in shares:
        sizes[share] = sizes.get(share, 0) + 1
    for size in list(sizes.values()):
        free = free - size * size
        turnings = turnings * falling_product(rests, size, size)
    return turnings * raised(1, rests, free)
