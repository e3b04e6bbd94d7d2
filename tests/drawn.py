"""Numbers, columns and grids that are drawn, the same in each run, and plain ways to what they tell."""

from itertools import combinations, permutations, product
from math import gcd
from random import Random

from gridwright.columns import Column
from gridwright.grids import Grid
from gridwright.kinds import nought, number_of, one
from gridwright.polys import Poly
from gridwright.ratios import Ratio
from gridwright.rests import Rest

FIELDS = ("ratio", "rest 2", "rest 3", "rest 97", "rest 999983")
NO_FIELDS = ("whole", "rest 4", "rest 6", "rest 1000000", "poly whole", "poly ratio", "poly rest 3")
KINDS = FIELDS + NO_FIELDS


def lot(name):
    """A fresh source of drawn things."""
    return Random(name)


def drawn_number(kind, source):
    if kind == "whole":
        return source.choice((0, 1, -1, 2, -3, 5, 10 ** 20))
    if kind == "ratio":
        return Ratio(source.randint(-4, 4), source.choice((1, 1, 2, 3)))
    if kind.startswith("rest "):
        return Rest(source.randint(0, 10 ** 6), int(kind[5:]))
    inner = kind[5:]
    return Poly(inner, tuple(drawn_number(inner, source) for _ in range(source.choice((0, 1, 1, 2, 3)))))


def drawn_column(kind, size, source):
    return Column(tuple(drawn_number(kind, source) for _ in range(size)))


def drawn_grid(kind, height, width, source):
    return Grid(tuple(tuple(drawn_number(kind, source) for _ in range(width)) for _ in range(height)))


def drawn_turning(kind, size, source):
    """A turning grid: 1 at the entries (i, i), anything above them, times the same with anything below."""
    def with_ones(upper):
        return Grid(tuple(tuple(
            one(kind) if i == j else drawn_number(kind, source) if (i < j) == upper else nought(kind)
            for j in range(size)) for i in range(size)))
    return with_ones(True) * with_ones(False)


def drawn_of_rank(kind, height, width, rank, source):
    """A grid over a field of just this rank."""
    rows = [[one(kind) if i == j < rank else nought(kind) for j in range(width)] for i in range(height)]
    middle = Grid(tuple(tuple(row) for row in rows))
    return drawn_turning(kind, height, source) * middle * drawn_turning(kind, width, source)


def all_grids(prime, height, width):
    """All grids of a shape by a prime."""
    for numbers in product(range(prime), repeat=height * width):
        rows = [numbers[k * width:(k + 1) * width] for k in range(height)]
        yield Grid(tuple(tuple(Rest(number, prime) for number in row) for row in rows))


def all_columns(prime, size):
    """All columns of a size by a prime."""
    for numbers in product(range(prime), repeat=size):
        yield Column(tuple(Rest(number, prime) for number in numbers))


def sign_of(order):
    return 1 if sum(a > b for a, b in combinations(order, 2)) % 2 == 0 else -1


def plain_det(kind, rows):
    """The determinant by its definition."""
    total = nought(kind)
    for order in permutations(range(len(rows))):
        term = one(kind)
        for k, place in enumerate(order):
            term = term * rows[k][place]
        total = total + term * sign_of(order)
    return total


def plain_product(grid, other):
    rows = []
    for i in range(grid.shape[0]):
        row = []
        for j in range(other.shape[1]):
            total = nought(grid.kind)
            for k in range(grid.shape[1]):
                total = total + grid.rows[i][k] * other.rows[k][j]
            row.append(total)
        rows.append(tuple(row))
    return Grid(tuple(rows))


def plain_minor(grid, rows, places):
    return plain_det(grid.kind, [[grid.rows[i][j] for j in places] for i in rows])


def plain_rank(grid):
    """The greatest size of a minor that is not nought."""
    for size in range(min(grid.shape), 0, -1):
        for rows in combinations(range(grid.shape[0]), size):
            for places in combinations(range(grid.shape[1]), size):
                if plain_minor(grid, rows, places):
                    return size
    return 0


def stands_in_stairs(grid):
    """Whether a grid stands in stairs, by the words of the definition."""
    pivots = []
    for row in grid.rows:
        filled = [place for place, number in enumerate(row) if number]
        if not filled:
            pivots.append(None)
            continue
        place = filled[0]
        if row[place] != one(grid.kind) or None in pivots or any(ahead >= place for ahead in pivots):
            return False
        if sum(bool(other[place]) for other in grid.rows) != 1:
            return False
        pivots.append(place)
    return True


def plain_sum(columns, numbers):
    """The sum of numbers times columns."""
    total = columns[0] * 0
    for column, number in zip(columns, numbers):
        total = total + column * number
    return total


def span_of(columns, prime):
    """The texts of all columns of a span by a prime."""
    every = product(range(prime), repeat=len(columns))
    return {plain_sum(columns, numbers).text for numbers in every}


def plain_one(kind, size):
    return Grid(tuple(tuple(number_of(kind, int(i == j)) for j in range(size)) for i in range(size)))


def drawn_whole(height, width, source, most=6):
    """A whole grid with numbers up to a size."""
    return Grid(tuple(tuple(source.randint(-most, most) for _ in range(width)) for _ in range(height)))


def drawn_whole_of_rank(height, width, rank, source, most=4):
    """A whole grid of at most this rank, as a product; of noughts for the rank 0."""
    if rank == 0:
        return Grid(((0,) * width,) * height)
    return drawn_whole(height, rank, source, most) * drawn_whole(rank, width, source, most)


def drawn_whole_turning(size, source, steps=12):
    """A whole turning grid of some drawn steps of rows."""
    rows = [[int(i == j) for j in range(size)] for i in range(size)]
    for _ in range(steps):
        i, j = source.randrange(size), source.randrange(size)
        if i == j:
            rows[i] = [-entry for entry in rows[i]]
        else:
            times = source.randint(-2, 2)
            rows[i] = [a + times * b for a, b in zip(rows[i], rows[j])]
    return Grid(tuple(tuple(row) for row in rows))


def plain_common_minor(grid, size):
    """The greatest number that divides all minors of a size; 1 for the size 0."""
    found = 1 if size == 0 else 0
    if size > 0:
        for rows in combinations(range(grid.shape[0]), size):
            for places in combinations(range(grid.shape[1]), size):
                found = gcd(found, plain_minor(grid, rows, places))
    return found


def is_member(grid, entries):
    """Whether whole numbers times the rows add up to a column: a row more changes neither the rank nor common minors."""
    more = Grid(grid.rows + (tuple(entries),))
    rank = plain_rank(grid)
    return plain_rank(more) == rank and plain_common_minor(more, rank) == plain_common_minor(grid, rank)


def stands_in_whole_stairs(grid):
    """Whether a whole grid stands in whole stairs, by the words of the definition."""
    last, ended = -1, False
    for k, row in enumerate(grid.rows):
        filled = [place for place, number in enumerate(row) if number]
        if not filled:
            ended = True
            continue
        place = filled[0]
        if ended or place <= last or row[place] < 1:
            return False
        if any(not 0 <= above[place] < row[place] for above in grid.rows[:k]):
            return False
        last = place
    return True


def chains_of_polys(kind, size):
    """Some tuples of monic polys, each dividing the next one, with degrees that add up to a size."""
    x = Poly(kind, (0, 1))
    square = x * x + x + 1
    for polys in (
        (x,), (x - 1,), (x, x), (x * x,), (square,), (x, x * (x - 1)), (x ** 3,), (x - 1, x - 1, x - 1), (x * square,),
        (x, x ** 3), (square, square), (square ** 2,), (x ** 2, x ** 2), (x - 1, (x - 1) ** 2 * x), (x, x, x, x),
        (x, x ** 2 * (x - 1) ** 2), (x, x, x ** 3), (square, square * x), (x, x, x, x, x), (x ** 5 - 1,),
        (x,) * 8, (x - 1, (x - 1) * x, (x - 1) ** 2 * x ** 3), (square ** 2, square ** 2), (x ** 8 - x,), (square, square, square ** 2),
    ):
        if sum(poly.degree for poly in polys) == size:
            yield polys


def plain_follower(poly):
    """The follower of a monic poly by the words of the document."""
    degree = poly.degree
    return Grid(tuple(tuple(
        -poly.coefficients[i] if j == degree - 1 else one(poly.kind) if i == j + 1 else nought(poly.kind)
        for j in range(degree)) for i in range(degree)))


def plain_blocks(polys):
    """The grid of the followers put from the corner on."""
    size = sum(poly.degree for poly in polys)
    rows = [[nought(polys[0].kind)] * size for _ in range(size)]
    ahead = 0
    for poly in polys:
        for i, row in enumerate(plain_follower(poly).rows):
            rows[ahead + i][ahead:ahead + poly.degree] = row
        ahead += poly.degree
    return Grid(tuple(tuple(row) for row in rows))


def turned_around(grid, source):
    """A grid alike to one: turned by a drawn turning grid and its inverse."""
    turning = drawn_turning(grid.kind, len(grid), source)
    return turning * grid * turning ** -1
