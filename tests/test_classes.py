from collections import Counter
from itertools import product

from drawn import all_grids, chains_of_polys, drawn_grid, lot, plain_blocks, turned_around
from gridwright.classes import alike_number, class_number, round_number
from gridwright.commuting import commuting_base
from gridwright.errors import InvalidNumber, NoInverse, NotAField, NotAGrid, NotRests, NotSquare, TooMany
from gridwright.farruns import rule_round
from gridwright.followers import block_form, follower
from gridwright.grids import Grid, nought_grid, one_grid
from gridwright.leading import led
from gridwright.lifting import turnings_number
from gridwright.polys import Poly
from gridwright.ratios import Ratio
from gridwright.rests import Rest
from gridwright.rounds import least_poly
from gridwright.sides import is_turning
from gridwright.wholes import primes_of
from samples import monic_by
from support import SPOILT, Told
from test_grids import NO_GRIDS
from test_stairs import NO_PRIMES

NO_RESTS = ("whole", "ratio", "poly whole", "poly ratio", "poly rest 3")


def plain_round(grid):
    """The number of steps after which the grid times itself is the one grid, one step after the other."""
    power, steps = grid, 1
    while power != one_grid(grid.kind, len(grid)):
        power, steps = power * grid, steps + 1
    return steps


def partitions(number, most):
    """All ways to write a number as a sum without regard to order."""
    if number == 0:
        yield ()
    for share in range(min(number, most), 0, -1):
        for behind in partitions(number - share, share):
            yield (share, *behind)


class RoundNumbers(Told):
    def test_all_small_turning_grids(self):
        for prime, size, step in ((2, 1, 1), (2, 2, 1), (3, 2, 1), (5, 1, 1), (2, 3, 1), (3, 3, 401), (5, 2, 7)):
            for grid in [grid for grid in all_grids(prime, size, size) if is_turning(grid)][::step]:
                self.tells(plain_round(grid), round_number, grid=grid)

    def test_the_least_exponent(self):
        source = lot("rounds")
        for kind, size in (("rest 2", 8), ("rest 5", 8), ("rest 7", 7), ("rest 31", 4), ("rest 97", 3), ("rest 997", 2), ("rest 999983", 1)):
            for _ in range(3):
                grid = drawn_grid(kind, size, size, source)
                if is_turning(grid):
                    found = round_number(grid)
                    self.same(grid ** found, one_grid(kind, size))
                    for prime in primes_of(found):
                        self.same(grid ** (found // prime) == one_grid(kind, size), False)

    def test_the_round_of_the_least_poly(self):
        for kind in ("rest 2", "rest 3", "rest 5"):
            source = lot(f"round polys {kind}")
            for size in (1, 2, 3, 4, 5):
                for polys in chains_of_polys(kind, size):
                    grid = turned_around(plain_blocks(polys), source)
                    if is_turning(grid):
                        self.tells(rule_round(least_poly(grid)), round_number, grid=grid)

    def test_square_parts_and_known_ones(self):
        for prime, size in ((2, 8), (3, 8), (5, 8)):
            steps = Poly(f"rest {prime}", (-1, 1)) ** size
            self.tells(8 if prime == 2 else 9 if prime == 3 else 25, round_number, grid=follower(steps))
        self.tells(255, round_number, grid=follower(Poly("rest 2", (1, 0, 1, 1, 1, 0, 0, 0, 1))))
        self.tells(1, round_number, grid=one_grid("rest 2", 8))
        self.tells(2, round_number, grid=one_grid("rest 3", 8) * 2)
        self.tells(999982, round_number, grid=Grid(((Rest(5, 999983),),)))

    def test_refusals_in_their_order(self):
        for value in NO_GRIDS:
            self.refuses(NotAGrid(value), round_number, grid=value)
        for kind in NO_RESTS:
            self.refuses(NotRests(kind), round_number, grid=nought_grid(kind, 2, 3))
        self.refuses(NotAField("rest 6"), round_number, grid=nought_grid("rest 6", 2, 3))
        self.refuses(NotSquare((2, 3)), round_number, grid=nought_grid("rest 3", 2, 3))
        self.refuses(NoInverse(), round_number, grid=nought_grid("rest 997", 8, 8))
        self.refuses(TooMany(1009 ** 2), round_number, grid=one_grid("rest 1009", 2))
        self.refuses(TooMany(7 ** 8), round_number, grid=one_grid("rest 7", 8))
        self.same(round_number(one_grid("rest 5", 8)), 1)


class ClassNumbers(Told):
    def test_by_the_sums(self):
        for prime, size in product((2, 3, 5, 97), range(1, 9)):
            expected = sum(prime ** max(shares) for shares in partitions(size, size))
            self.tells(expected, class_number, prime=prime, size=size)

    def test_all_grids_of_small_sizes(self):
        for prime, size in ((2, 1), (3, 1), (2, 2), (3, 2), (2, 3)):
            forms = {block_form(grid).text for grid in all_grids(prime, size, size)}
            self.same(class_number(prime, size), len(forms))

    def test_all_chains_of_polys(self):
        found = 0
        for shares in partitions(3, 3):
            chains = [()]
            for share in shares[::-1]:
                chains = [ahead + (poly,) for ahead in chains for poly in monic_by(3, 3)
                          if poly.degree == share and (not ahead or not poly % ahead[-1])]
            found += len(chains)
        self.same(class_number(3, 3), found)

    def test_refusals_in_their_order(self):
        for value in NO_PRIMES:
            self.refuses(InvalidNumber(value), class_number, prime=value, size=None)
        for value in [*SPOILT, 0, -1, 9, 10 ** 40, Ratio(1), Rest(1, 2)]:
            self.refuses(InvalidNumber(value), class_number, prime=2, size=value)


class AlikeNumbers(Told):
    def test_all_grids_of_small_sizes(self):
        for prime, size in ((2, 1), (3, 1), (2, 2), (3, 2), (2, 3), (5, 2)):
            counted = Counter(block_form(grid).text for grid in all_grids(prime, size, size))
            for text, many in counted.items():
                grid = turned_around(Grid.read(text), lot(text))
                self.tells(many, alike_number, grid=grid)

    def test_all_classes_together_are_all_grids(self):
        for prime, size in ((2, 3), (3, 2), (5, 2)):
            forms = {block_form(grid).text for grid in all_grids(prime, size, size)}
            self.same(sum(alike_number(Grid.read(text)) for text in forms), prime ** (size * size))
        # By two and of size 4, whose classes are told by the polys alone.
        found, many = 0, 0
        for shares in partitions(4, 4):
            chains = [()]
            for share in shares[::-1]:
                chains = [ahead + (poly,) for ahead in chains for poly in monic_by(2, 4)
                          if poly.degree == share and (not ahead or not poly % ahead[-1])]
            many += len(chains)
            found += sum(alike_number(plain_blocks(polys)) for polys in chains)
        self.same([found, many], [2 ** 16, class_number(2, 4)])

    def test_turning_grids_divided_by_those_that_commute(self):
        source = lot("alike numbers")
        for kind in ("rest 2", "rest 3"):
            for size in (2, 3, 4):
                for polys in chains_of_polys(kind, size):
                    grid = turned_around(plain_blocks(polys), source)
                    base, prime = commuting_base(grid), int(kind[5:])
                    if prime ** len(base) <= 3 ** 5:
                        turning = 0
                        for numbers in product(range(prime), repeat=len(base)):
                            total = nought_grid(kind, size, size)
                            for number, one in zip(numbers, base):
                                total = total + one * number
                            turning += is_turning(total)
                        self.same(alike_number(grid) * turning, turnings_number(size, prime))

    def test_the_edges(self):
        for prime in (2, 97):
            kind = f"rest {prime}"
            self.tells(1, alike_number, grid=one_grid(kind, 8))
            self.tells(1, alike_number, grid=nought_grid(kind, 1, 1))
            lone = follower(Poly(kind, (0,) * 8 + (1,)))
            self.tells(turnings_number(8, prime) // ((prime - 1) * prime ** 7), alike_number, grid=lone)
        self.tells(3, alike_number, grid=led(Grid(((0, 1), (1, 0))), "rest 2"))

    def test_refusals_in_their_order(self):
        for value in NO_GRIDS:
            self.refuses(NotAGrid(value), alike_number, grid=value)
        for kind in NO_RESTS:
            self.refuses(NotRests(kind), alike_number, grid=nought_grid(kind, 2, 3))
        for kind in ("rest 6", "rest 1000000"):
            self.refuses(NotAField(kind), alike_number, grid=nought_grid(kind, 2, 3))
        for kind in ("rest 101", "rest 999983"):
            self.refuses(NotRests(kind), alike_number, grid=nought_grid(kind, 2, 3))
        self.refuses(NotSquare((2, 3)), alike_number, grid=nought_grid("rest 97", 2, 3))
