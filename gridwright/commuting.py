"""Grids that commute with square grids over a field, and polys at which one grid is another one."""

from gridwright.dividing import common
from gridwright.fieldgrids import check_field_squares
from gridwright.followers import block_turning, core_polys
from gridwright.grids import Grid
from gridwright.inverting import inverse_rows
from gridwright.kinds import nought
from gridwright.polys import Poly
from gridwright.rounds import least_poly
from gridwright.stepping import led_to_stairs, solved
from gridwright.tables import turned_rows


def commutes(grid, other):
    """Whether two grids have the same product either way round."""
    check_field_squares(grid, other)
    return grid * other == other * grid


def commuting_number(grid):
    """How many grids are in a base of those that commute with a grid."""
    polys = core_polys(grid)
    return sum([common(poly, other).degree for poly in polys for other in polys])


def commuting_base(grid):
    """A tuple of grids of which all that commute with a grid are sums of numbers times them."""
    turning = block_turning(grid)
    back = Grid(inverse_rows(grid.kind, turning.rows))
    return tuple([turning * inner * back for inner in _base_at_blocks(core_polys(grid))])


def _base_at_blocks(polys):
    """The same for the grid of the followers of core polys.

    The numbers of a block are a poly, led by the core poly, and the follower multiplies it by x. So a grid that
    commutes is told by the polys to which it leads the first column of each block in each other one; the core poly of
    the one times it vanishes in the other.
    """
    found = []
    for first, poly in enumerate(polys):
        for second, other in enumerate(polys):
            shared = common(poly, other)
            for step in range(shared.degree):
                image = (other // shared) * _letter_power(poly.kind, step)
                found.append(_led_by(polys, first, second, image))
    return found


def _letter_power(kind, exponent):
    """The poly x to the power of an exponent."""
    return Poly(kind, (0,) * exponent + (1,))


def _led_by(polys, first, second, image):
    """The grid that leads the columns of one block to an image in another one, to this times x, and so on."""
    columns = []
    for k, poly in enumerate(polys):
        for step in range(poly.degree):
            place = _letter_power(poly.kind, step) * image % polys[second] if k == first else image - image
            columns.append(_column_with(polys, second, place.coefficients))
    return Grid(turned_rows(columns))


def _column_with(polys, block, numbers):
    """The column with numbers from the start of a block on, and noughts elsewhere."""
    ahead, behind = [sum([poly.degree for poly in part]) for part in (polys[:block], polys[block:])]
    zero = nought(polys[0].kind)
    return (zero,) * ahead + numbers + (zero,) * (behind - len(numbers))


def is_lone(grid):
    """Whether each grid that commutes with a grid is a poly at it."""
    return len(core_polys(grid)) == 1


def _entries(grid):
    return [entry for row in grid.rows for entry in row]


def poly_for(grid, other):
    """The poly of least degree that is the other grid at the first one; None if there is none."""
    check_field_squares(grid, other)
    powers = [grid ** 0]
    for _ in range(least_poly(grid).degree - 1):
        powers.append(powers[-1] * grid)
    # Up to the degree of the least poly the powers are free, so there is no choice.
    numbers = solved(grid.kind, turned_rows([_entries(power) for power in powers]), _entries(other))
    return None if numbers is None else Poly(grid.kind, numbers)


def both_commuting(grid, other):
    """How many grids are in a base of those that commute with both of two grids."""
    check_field_squares(grid, other)
    first, second = (grid, other) if commuting_number(grid) < commuting_number(other) else (other, grid)
    base = commuting_base(first)
    # Numbers times the base commute with the second grid, too, exactly if what each leaves adds up to nought.
    left = turned_rows([_entries(inner * second - second * inner) for inner in base])
    _, places = led_to_stairs(left, len(base))
    return len(base) - len(places)
