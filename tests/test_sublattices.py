from itertools import product

from drawn import drawn_whole, drawn_whole_turning, lot, stands_in_whole_stairs
from gridwright.dets import det
from gridwright.errors import InvalidIndex, InvalidNumber, NotAGrid, NotSquare, NotWhole, Nought, TooMany
from gridwright.grids import Grid, nought_grid, one_grid
from gridwright.lattices import lattice_index, same_lattice
from gridwright.parting import prime_powers_of
from gridwright.ratios import Ratio
from gridwright.rests import Rest
from gridwright.sublattices import lattice_at, lattices_number, place_of_lattice
from support import SPOILT, Told
from test_grids import NO_GRIDS

NO_SIZES = [*SPOILT, 0, -1, 9, 10 ** 40, Ratio(1), Rest(1, 2)]


def ordered_products(size, index):
    """All tuples of so many numbers from 1 on that make the index."""
    if size == 0:
        return [()] if index == 1 else []
    found = []
    for number in range(1, index + 1):
        if index % number == 0:
            found += [(number,) + rest for rest in ordered_products(size - 1, index // number)]
    return found


def number_by_sum(size, index):
    total = 0
    for numbers in ordered_products(size, index):
        term = 1
        for place, number in enumerate(numbers):
            term *= number ** place
        total += term
    return total


def plain_bases(size, index):
    """The rows of all plain bases with this index, ascending."""
    found = []
    for pivots in ordered_products(size, index):
        entries = [(i, j) for i in range(size) for j in range(i + 1, size)]
        for numbers in product(*[range(pivots[j]) for _, j in entries]):
            told = dict(zip(entries, numbers))
            found.append(tuple(tuple(pivots[i] if i == j else told.get((i, j), 0) for j in range(size)) for i in range(size)))
    return sorted(found)


class Counted(Told):
    def test_the_told_sum(self):
        for size, index in product(range(1, 9), (1, 2, 4, 6, 7, 12, 16, 30)):
            if size < 6 or index < 12:
                self.tells(number_by_sum(size, index), lattices_number, size=size, index=index)

    def test_by_listing_all(self):
        for size, index in product((1, 2, 3), range(1, 13)):
            self.same(lattices_number(size, index), len(plain_bases(size, index)))

    def test_great_indexes(self):
        far = 10 ** 12
        self.tells(1, lattices_number, size=1, index=far)
        divisors = [2 ** a * 5 ** b for a in range(13) for b in range(13)]
        self.tells(sum(divisors), lattices_number, size=2, index=far)
        prime = 999999999989
        self.tells(1 + prime, lattices_number, size=2, index=prime)
        self.tells(sum(prime ** k for k in range(8)), lattices_number, size=8, index=prime)
        self.same(lattices_number(8, 1), 1)

    def test_of_indexes_without_common_divisors_it_is_the_product(self):
        for size, index, other in product((2, 5, 8), (4, 9, 400), (7, 121)):
            self.same(lattices_number(size, index * other), lattices_number(size, index) * lattices_number(size, other))

    def test_refusals(self):
        for value in NO_SIZES:
            self.refuses(InvalidNumber(value), lattices_number, size=value, index=0)
            self.refuses(InvalidNumber(value), lattices_number, size=value, index=1)
        for value in [*SPOILT, 0, -1, 10 ** 12 + 1, 10 ** 40, Ratio(1)]:
            self.refuses(InvalidNumber(value), lattices_number, size=2, index=value)


class Listed(Told):
    def test_all_ascending_and_the_place_of_each(self):
        for size, most in ((1, 20), (2, 16), (3, 9), (4, 4)):
            for index in range(1, most + 1):
                expected = plain_bases(size, index)
                for place, rows in enumerate(expected):
                    self.tells(Grid(rows), lattice_at, size=size, index=index, place=place)
                    self.tells(place, place_of_lattice, grid=Grid(rows))
                self.refuses(InvalidIndex(len(expected)), lattice_at, size=size, index=index, place=len(expected))

    def test_the_first_and_the_last_of_great_ones(self):
        for size, index in product((1, 4, 8), (1, 2, 360, 397, 400)):
            many = lattices_number(size, index)
            for place in sorted({0, many // 7, many // 2, many - 1}):
                grid = lattice_at(size, index, place)
                self.same([grid.shape, stands_in_whole_stairs(grid), det(grid)], [(size, size), True, index])
                self.tells(place, place_of_lattice, grid=grid)
            first = [[int(i == j) for j in range(size)] for i in range(size)]
            first[-1][-1] = index
            self.same(lattice_at(size, index, 0), Grid(tuple(tuple(row) for row in first)))
            last = [[int(i == j) for j in range(size)] for i in range(size)]
            last[0][0] = index
            self.same(lattice_at(size, index, many - 1), Grid(tuple(tuple(row) for row in last)))
            self.refuses(InvalidIndex(many), lattice_at, size=size, index=index, place=many)

    def test_neighbours_ascend(self):
        for size, index in ((5, 12), (8, 36), (3, 400)):
            for place in range(1000, 1020):
                self.assertLess(lattice_at(size, index, place).rows, lattice_at(size, index, place + 1).rows)

    def test_the_place_is_that_of_the_lattice(self):
        source = lot("places of lattices")
        for size in (1, 2, 3, 5):
            for _ in range(6):
                grid = drawn_whole(size, size, source, 3)
                index = abs(det(grid))
                if 0 < index <= 400:
                    place = place_of_lattice(grid)
                    self.tells(place, place_of_lattice, grid=drawn_whole_turning(size, source) * grid)
                    found = lattice_at(size, index, place)
                    self.same([same_lattice(grid, found), lattice_index(found, one_grid("whole", size))], [True, index])

    def test_refusals(self):
        for value in NO_SIZES:
            self.refuses(InvalidNumber(value), lattice_at, size=value, index=0, place=-1)
        for value in [*SPOILT, 0, -1, 401, 10 ** 12, 10 ** 40, Ratio(1)]:
            self.refuses(InvalidNumber(value), lattice_at, size=2, index=value, place=-1)
        for value in [*SPOILT, -1, 3, 10 ** 40, Ratio(0)]:
            self.refuses(InvalidIndex(value), lattice_at, size=2, index=2, place=value)
        for value in NO_GRIDS:
            self.refuses(NotAGrid(value), place_of_lattice, grid=value)
        for kind in ("ratio", "rest 3", "poly whole"):
            self.refuses(NotWhole(kind), place_of_lattice, grid=nought_grid(kind, 2, 3))
        self.refuses(NotSquare((2, 3)), place_of_lattice, grid=nought_grid("whole", 2, 3))
        self.refuses(Nought(), place_of_lattice, grid=nought_grid("whole", 8, 8))
        self.refuses(TooMany(401), place_of_lattice, grid=Grid(((1, 5), (0, -401))))
        self.refuses(TooMany(10 ** 60), place_of_lattice, grid=Grid(((10 ** 30, 0), (0, 10 ** 30))))
        self.same(place_of_lattice(Grid(((400,),))), 0)


class Parting(Told):
    """Whole numbers parted into powers of primes, on which the numbers of lattices rest."""

    def test_small_numbers(self):
        for number in range(1, 4000):
            found = prime_powers_of(number)
            self.same([pair for pair in found if any(pair[0] % k == 0 for k in range(2, int(pair[0] ** 0.5) + 1))], [])
            total = 1
            for prime, many in found:
                total *= prime ** many
            self.same([total, found], [number, sorted(found)])

    def test_great_numbers(self):
        for parts in (((1009, 2),), ((10 ** 9 + 7, 1), (10 ** 9 + 9, 1)), ((2, 40), (3, 7), (999999999989, 1)), ((1000003, 3),),
                      ((997, 2), (1009, 1), (10 ** 15 + 37, 1)), ((10 ** 29 + 319, 1),), ((2 ** 89 - 1, 1),), ((999983, 4),)):
            number = 1
            for prime, many in parts:
                number *= prime ** many
            self.same(prime_powers_of(number), list(parts))

    def test_numbers_that_look_like_primes(self):
        # These behave like primes with several of the least bases (Jaeschke, Zhang).
        for number, parts in ((3215031751, [(151, 1), (751, 1), (28351, 1)]), (3474749660383, [(1303, 1), (16927, 1), (157543, 1)]),
                              (3825123056546413051, [(149491, 1), (747451, 1), (34233211, 1)])):
            self.same(prime_powers_of(number), parts)
