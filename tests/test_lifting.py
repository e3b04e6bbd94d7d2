from itertools import product

from drawn import drawn_grid, drawn_whole, lot, plain_one
from gridwright.dets import det
from gridwright.errors import (
    InvalidGrids, InvalidIndex, InvalidNumber, NoInverse, NotAGrid, NotRests, NotSquare, NotWhole, TooMany,
)
from gridwright.grids import Grid, nought_grid, one_grid
from gridwright.leading import led
from gridwright.lifting import lifted_inverse, parted, put_together, turning_at, turnings_number
from gridwright.ratios import Ratio
from gridwright.rests import Rest
from gridwright.sides import inverse, is_turning
from gridwright.stairs import rank_number
from support import SPOILT, Told
from test_grids import NO_GRIDS
from test_stairs import NO_PRIMES

POWERS = {12: (4, 3), 6: (2, 3), 7: (7,), 8: (8,), 360: (8, 9, 5), 10 ** 6: (64, 15625), 510510: (2, 3, 5, 7, 11, 13, 17), 999983: (999983,)}
NO_SIZES = [*SPOILT, 0, -1, 9, 10 ** 40, Ratio(1), Rest(1, 2)]


def grids_by(modulus, size):
    """All square grids of a size by a modulus, ascending by their rows as tuples of numbers."""
    for numbers in product(range(modulus), repeat=size * size):
        rows = [numbers[k * size:(k + 1) * size] for k in range(size)]
        yield Grid(tuple(tuple(Rest(number, modulus) for number in row) for row in rows))


class PartedAndPutTogether(Told):
    def test_by_the_greatest_powers_of_primes(self):
        for modulus, powers in POWERS.items():
            for shape in ((1, 1), (2, 3), (8, 8)):
                grid = drawn_grid(f"rest {modulus}", *shape, lot(f"parted {modulus}"))
                expected = tuple(led(grid, f"rest {power}") for power in powers)
                self.tells(expected, parted, grid=grid)
                self.tells(grid, put_together, grids=expected)
                self.tells(grid, put_together, grids=expected[::-1])

    def test_it_leads_to_all(self):
        source = lot("put together")
        for moduli in ((4, 9), (6, 35), (2, 3, 5, 7, 11, 13, 17), (1000, 999), (999983,), (4, 3, 25)):
            grids = tuple(drawn_grid(f"rest {modulus}", 2, 3, source) for modulus in moduli)
            found = put_together(grids)
            total = 1
            for modulus in moduli:
                total *= modulus
            self.same([found.kind, found.shape], [f"rest {total}", (2, 3)])
            for grid, modulus in zip(grids, moduli):
                self.same(led(found, f"rest {modulus}"), grid)

    def test_the_bounds(self):
        thousand, nine = nought_grid("rest 1000", 1, 1), nought_grid("rest 999", 1, 1)
        self.same(put_together((thousand, nine)).kind, "rest 999000")
        self.refuses(TooMany(1001000), put_together, grids=(thousand, nought_grid("rest 1001", 1, 1)))
        eight = tuple(nought_grid(f"rest {prime}", 1, 1) for prime in (2, 3, 5, 7, 11, 13, 17, 19))
        self.refuses(TooMany(9699690), put_together, grids=eight)
        self.refuses(InvalidGrids(8), put_together, grids=(*eight, nought_grid("rest 23", 1, 1)))

    def test_the_first_wrong_one(self):
        good = nought_grid("rest 4", 2, 2)
        for value in [*SPOILT, good, [good]]:
            if not isinstance(value, tuple) or not value:
                self.refuses(InvalidGrids(None), put_together, grids=value)
        for value in [*SPOILT, nought_grid("ratio", 2, 2), nought_grid("poly rest 3", 2, 2), nought_grid("whole", 2, 2)]:
            self.refuses(InvalidGrids(0), put_together, grids=(value, good))
            self.refuses(InvalidGrids(1), put_together, grids=(good, value, value))
        for value in (nought_grid("rest 9", 2, 1), nought_grid("rest 9", 1, 2), nought_grid("rest 4", 2, 2), nought_grid("rest 6", 2, 2)):
            self.refuses(InvalidGrids(1), put_together, grids=(good, value))
        nine = nought_grid("rest 9", 2, 2)
        self.refuses(InvalidGrids(2), put_together, grids=(good, nine, nought_grid("rest 15", 2, 2)))
        self.refuses(InvalidGrids(2), put_together, grids=(good, nine, nought_grid("rest 10", 2, 2)))
        for value in NO_GRIDS:
            self.refuses(NotAGrid(value), parted, grid=value)
        for kind in ("whole", "ratio", "poly rest 3"):
            self.refuses(NotRests(kind), parted, grid=nought_grid(kind, 2, 3))


class Lifted(Told):
    def test_the_inverse_by_a_power_of_a_prime(self):
        source = lot("lifted")
        for size, prime, power in product((1, 2, 3, 8), (2, 3, 97), (1, 2, 3, 7, 20)):
            grid = drawn_whole(size, size, source, 9 if power % 2 else 10 ** 30)
            modulus = prime ** power
            if det(grid) % prime == 0:
                self.refuses(NoInverse(), lifted_inverse, grid=grid, prime=prime, power=power)
                continue
            found = lifted_inverse(grid, prime, power)
            self.tells(found, lifted_inverse, grid=grid, prime=prime, power=power)
            self.same([found.kind, all(0 <= entry < modulus for row in found.rows for entry in row)], ["whole", True])
            for made in (grid * found, found * grid):
                self.same(Grid(tuple(tuple(entry % modulus for entry in row) for row in made.rows)), plain_one("whole", size))
            if modulus <= 10 ** 6:
                self.same(led(found, f"rest {modulus}"), inverse(led(grid, f"rest {modulus}")))

    def test_there_is_one_exactly_by_the_prime(self):
        for rows in product(product(range(-1, 2), repeat=2), repeat=2):
            grid = Grid(rows)
            for prime, power in ((2, 1), (2, 5), (3, 4)):
                if det(grid) % prime:
                    lifted_inverse(grid, prime, power)
                else:
                    self.refuses(NoInverse(), lifted_inverse, grid=grid, prime=prime, power=power)

    def test_refusals(self):
        good = one_grid("whole", 2)
        for value in NO_GRIDS:
            self.refuses(NotAGrid(value), lifted_inverse, grid=value, prime=4, power=0)
        for value in NO_PRIMES:
            self.refuses(InvalidNumber(value), lifted_inverse, grid=good, prime=value, power=0)
            self.refuses(InvalidNumber(value), lifted_inverse, grid=nought_grid("ratio", 1, 2), prime=value, power=0)
        for value in [*SPOILT, 0, -1, 21, 10 ** 40, Ratio(1)]:
            self.refuses(InvalidNumber(value), lifted_inverse, grid=nought_grid("ratio", 1, 2), prime=2, power=value)
        for kind in ("ratio", "rest 2", "poly whole"):
            self.refuses(NotWhole(kind), lifted_inverse, grid=nought_grid(kind, 2, 3), prime=2, power=1)
        self.refuses(NotSquare((2, 3)), lifted_inverse, grid=nought_grid("whole", 2, 3), prime=2, power=1)
        self.refuses(NoInverse(), lifted_inverse, grid=nought_grid("whole", 8, 8), prime=97, power=20)


class Counted(Told):
    def test_by_listing_all(self):
        for modulus, size in [*product(range(2, 13), (1,)), *product((2, 3, 4, 5, 6), (2,)), (2, 3)]:
            many = len([grid for grid in grids_by(modulus, size) if is_turning(grid)])
            self.tells(many, turnings_number, size=size, modulus=modulus)

    def test_by_powers_of_primes(self):
        for size, prime in product(range(1, 9), (2, 3, 97)):
            by_prime = rank_number(size, size, size, prime)
            self.tells(by_prime, turnings_number, size=size, modulus=prime)
            for power in range(2, 5):
                if prime ** power <= 10 ** 6:
                    expected = by_prime * prime ** ((power - 1) * size * size)
                    self.tells(expected, turnings_number, size=size, modulus=prime ** power)
        for size, modulus in product((1, 3, 8), POWERS):
            expected = 1
            for power in POWERS[modulus]:
                expected *= turnings_number(size, power)
            self.same(turnings_number(size, modulus), expected)

    def test_refusals(self):
        for value in NO_SIZES:
            self.refuses(InvalidNumber(value), turnings_number, size=value, modulus=0)
            self.refuses(InvalidNumber(value), turnings_number, size=value, modulus=2)
        for value in [*SPOILT, 0, 1, -2, 10 ** 6 + 1, 10 ** 40, Ratio(2)]:
            self.refuses(InvalidNumber(value), turnings_number, size=2, modulus=value)
        self.same(turnings_number(1, 10 ** 6), 400000)


class Listed(Told):
    def test_all_ascending(self):
        for prime, size in ((2, 1), (3, 1), (7, 1), (2, 2), (3, 2), (2, 3)):
            expected = [grid for grid in grids_by(prime, size) if is_turning(grid)]
            for index, grid in enumerate(expected):
                self.tells(grid, turning_at, size=size, prime=prime, index=index)
            self.refuses(InvalidIndex(len(expected)), turning_at, size=size, prime=prime, index=len(expected))

    def test_the_first_and_the_last(self):
        for size, prime in product((1, 2, 3), (2, 3, 5, 7)):
            many = turnings_number(size, prime)
            first, last = turning_at(size, prime, 0), turning_at(size, prime, many - 1)
            self.same([first, first.kind], [led(Grid(tuple(tuple(int(i + j == size - 1) for j in range(size)) for i in range(size))), first.kind),
                                            f"rest {prime}"])
            top = prime - 1
            expected = {1: ((top,),), 2: ((top, top), (top, top - 1)), 3: ((top,) * 3, (top, top, top - 1), (top, top - 1, top))}[size]
            self.same(last, led(Grid(expected), f"rest {prime}"))
            middle = [turning_at(size, prime, index) for index in sorted({many // 2, many // 2 + 1, many - 1}) if index < many]
            keys = [[[entry.number for entry in row] for row in grid.rows] for grid in middle]
            self.same([keys, all(is_turning(grid) for grid in middle)], [sorted(keys), True])

    def test_refusals(self):
        for value in [*SPOILT, 0, -1, 4, 8, 10 ** 40, Ratio(1)]:
            self.refuses(InvalidNumber(value), turning_at, size=value, prime=4, index=-1)
        for value in [*SPOILT, 0, 1, 4, 6, 9, 11, 97, -2, 10 ** 40, Ratio(2)]:
            self.refuses(InvalidNumber(value), turning_at, size=3, prime=value, index=-1)
        for value in [*SPOILT, -1, 6, 10 ** 40, Ratio(0)]:
            self.refuses(InvalidIndex(value), turning_at, size=2, prime=2, index=value)
