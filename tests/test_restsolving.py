from itertools import product
from math import gcd

from drawn import drawn_column, drawn_grid, drawn_turning, lot
from gridwright.columns import Column, dot
from gridwright.cores import core_numbers
from gridwright.errors import InvalidShape, NotAColumn, NotAGrid, NotRests, TooMany, Unlike
from gridwright.grids import Grid, nought_grid
from gridwright.leading import led, to_whole
from gridwright.lifting import parted
from gridwright.restsolving import (
    all_rest_solutions, are_rest_led, first_rest_solution, rest_bar, rest_cores, rest_solutions,
)
from gridwright.rests import Rest
from gridwright.solving import solution, solutions_number
from gridwright.wholesolving import whole_solution
from support import Told
from test_columns import NO_COLUMNS
from test_grids import NO_GRIDS

MODULI = (2, 3, 4, 5, 6, 8, 9, 12)
GREAT = (30, 360, 999983, 10 ** 6, 2 ** 19, 510510)
WITH_COLUMN = (rest_solutions, first_rest_solution, all_rest_solutions, rest_bar)


def columns_by(modulus, size):
    """All columns of a size, ascending by their numbers."""
    for numbers in product(range(modulus), repeat=size):
        yield Column(tuple(Rest(number, modulus) for number in numbers))


def numbers_of(value):
    return to_whole(value)[1]


def equations(name):
    """Grids small enough to go through all columns."""
    source = lot(name)
    for modulus, (height, width) in product(MODULI, ((1, 1), (1, 2), (2, 1), (2, 2), (3, 2), (2, 3))):
        if modulus ** width < 800:
            kind = f"rest {modulus}"
            yield nought_grid(kind, height, width), source
            for _ in range(2):
                yield drawn_grid(kind, height, width, source), source
            yield drawn_grid(kind, height, 1, source) * drawn_grid(kind, 1, width, source), source
            yield drawn_grid(kind, height, width, source) * (2 if modulus % 2 == 0 else 3), source


class Solutions(Told):
    def holds(self, grid, column, fitting):
        """That what is told of an equation is so, the ascending list of all solutions being known."""
        self.tells(len(fitting), rest_solutions, grid=grid, column=column)
        self.tells(fitting[0] if fitting else None, first_rest_solution, grid=grid, column=column)
        if len(fitting) <= 400:
            self.tells(tuple(fitting), all_rest_solutions, grid=grid, column=column)
        else:
            self.refuses(TooMany(len(fitting)), all_rest_solutions, grid=grid, column=column)
        self.bar_holds(grid, column, not fitting)

    def bar_holds(self, grid, column, expected):
        against = rest_bar(grid, column)
        self.tells(against, rest_bar, grid=grid, column=column)
        self.same(against is not None, expected)
        if against is not None:
            self.same([against.kind, bool(grid.turned * against), bool(dot(against, column))], [grid.kind, False, True])

    def test_by_going_through_all_columns(self):
        for grid, source in equations("all columns"):
            modulus = int(grid.kind[5:])
            led_to = {}
            for column in columns_by(modulus, grid.shape[1]):
                led_to.setdefault((grid * column).text, []).append(column)
            told = [drawn_column(grid.kind, len(grid), source) for _ in range(3)]
            told += [grid * drawn_column(grid.kind, grid.shape[1], source), Column((Rest(0, modulus),) * len(grid))]
            for column in told:
                self.holds(grid, column, led_to.get(column.text, []))

    def test_the_number_by_the_rest_cores(self):
        for grid, source in equations("numbers by cores"):
            modulus = int(grid.kind[5:])
            expected = modulus ** (grid.shape[1] - min(grid.shape))
            for core in rest_cores(grid):
                expected *= core
            self.same(rest_solutions(grid, grid * drawn_column(grid.kind, grid.shape[1], source)), expected)

    def test_great_ones(self):
        for modulus, shape in product(GREAT, ((1, 8), (8, 1), (3, 5), (5, 3), (8, 8))):
            kind, source = f"rest {modulus}", lot(f"great rests {modulus} {shape}")
            grid = drawn_grid(kind, *shape, source)
            for other in (grid, grid * 6, drawn_grid(kind, shape[0], 1, source) * drawn_grid(kind, 1, shape[1], source)):
                inside = other * drawn_column(kind, shape[1], source)
                first = first_rest_solution(other, inside)
                self.same(other * first, inside)
                self.assertGreater(rest_solutions(other, inside), 0)
                self.bar_holds(other, inside, False)
                column = drawn_column(kind, shape[0], source)
                many = rest_solutions(other, column)
                self.bar_holds(other, column, many == 0)
                self.same(first_rest_solution(other, column) is None, many == 0)

    def test_the_edges(self):
        kind = "rest 12"
        zero = Column((Rest(0, 12),))
        self.tells(12 ** 8, rest_solutions, grid=nought_grid(kind, 1, 8), column=zero)
        self.tells(Column((Rest(0, 12),) * 8), first_rest_solution, grid=nought_grid(kind, 1, 8), column=zero)
        self.refuses(TooMany(12 ** 8), all_rest_solutions, grid=nought_grid(kind, 1, 8), column=zero)
        self.tells((), all_rest_solutions, grid=nought_grid(kind, 1, 8), column=Column((Rest(4, 12),)))
        self.same(len(all_rest_solutions(nought_grid("rest 20", 1, 2), Column((Rest(0, 20),)))), 400)
        self.same(len(all_rest_solutions(nought_grid("rest 400", 1, 1), Column((Rest(0, 400),)))), 400)
        self.refuses(TooMany(401), all_rest_solutions, grid=nought_grid("rest 401", 1, 1), column=Column((Rest(0, 401),)))
        self.tells((Column((Rest(2, 12),)), Column((Rest(8, 12),))), all_rest_solutions,
                   grid=Grid(((Rest(2, 12),),)), column=Column((Rest(4, 12),)))
        self.tells(None, rest_bar, grid=Grid(((Rest(5, 12),),)), column=Column((Rest(7, 12),)))
        self.tells(Column((Rest(11, 12),)), first_rest_solution, grid=Grid(((Rest(5, 12),),)), column=Column((Rest(7, 12),)))

    def test_by_primes_as_over_a_field(self):
        for kind, shape in product(("rest 2", "rest 7", "rest 999983"), ((2, 3), (3, 3), (4, 2))):
            source = lot(f"as over a field {kind} {shape}")
            grid = drawn_grid(kind, *shape, source)
            for column in (grid * drawn_column(kind, shape[1], source), drawn_column(kind, shape[0], source)):
                self.same(rest_solutions(grid, column), solutions_number(grid, column))
                self.same(first_rest_solution(grid, column) is None, solution(grid, column) is None)


class Theorems(Told):
    def test_by_each_power_of_a_prime(self):
        for grid, source in equations("by powers"):
            modulus = int(grid.kind[5:])
            column = drawn_column(grid.kind, len(grid), source)
            number = 1
            for part in parted(grid):
                number *= rest_solutions(part, led(column, part.kind))
            self.same(rest_solutions(grid, column), number)
            self.same(len(parted(grid)), len([p for p in (2, 3, 5) if modulus % p == 0]))

    def test_whole_solutions_exactly_by_all_powers_in_the_cores(self):
        source = lot("whole by rests")
        for _ in range(40):
            height, width = source.choice(((1, 1), (1, 2), (2, 2), (2, 3)))
            grid = Grid(tuple(tuple(source.randint(-6, 6) for _ in range(width)) for _ in range(height)))
            column = Column(tuple(source.randint(-6, 6) for _ in range(height)))
            total = 1
            for core in core_numbers(grid):
                total *= core
            by_ratios = solution(led(grid, "ratio"), led(column, "ratio")) is not None
            # By the product of the cores, and so by each power of a prime in it.
            by_rests = total == 1 or rest_solutions(led(grid, f"rest {total}"), led(column, f"rest {total}")) > 0
            if by_ratios:
                self.same(whole_solution(grid, column) is not None, by_rests)
            else:
                self.same(whole_solution(grid, column), None)


class RestCores(Told):
    def test_from_the_core_numbers(self):
        for grid, _ in equations("rest cores"):
            modulus = int(grid.kind[5:])
            cores = core_numbers(numbers_of(grid))
            expected = [gcd(core, modulus) for core in cores] + [modulus] * (min(grid.shape) - len(cores))
            self.tells(tuple(expected), rest_cores, grid=grid)
            for core, other in zip(expected, [*expected[1:], modulus]):
                self.same([modulus % core, other % core], [0, 0])

    def test_turning_changes_none(self):
        for modulus, shape in product((4, 6, 12, 999983, 10 ** 6), ((1, 1), (2, 3), (4, 4), (8, 5))):
            kind, source = f"rest {modulus}", lot(f"turned rests {modulus} {shape}")
            grid = drawn_grid(kind, *shape, source) * source.choice((1, 2, 3))
            turned = drawn_turning(kind, shape[0], source) * grid * drawn_turning(kind, shape[1], source)
            self.same(rest_cores(turned), rest_cores(grid))
            self.tells(True, are_rest_led, grid=grid, other=turned)
            self.same(rest_cores(grid.turned), rest_cores(grid))

    def test_led_into_one_another(self):
        # All grids of a small size fall into classes by turning on both sides; each class has rest cores of its own.
        for modulus, height, width in ((4, 1, 2), (6, 1, 2), (2, 2, 2), (3, 2, 2), (4, 2, 1)):
            kind = f"rest {modulus}"
            grids = [Grid(tuple(tuple(Rest(entry, modulus) for entry in numbers[k * width:(k + 1) * width]) for k in range(height)))
                     for numbers in product(range(modulus), repeat=height * width)]
            steps = [[drawn_turning(kind, size, lot(f"{kind} {k}")) for k in range(12)] for size in (height, width)]
            for grid in grids:
                for left, right in zip(*steps):
                    self.same(are_rest_led(grid, left * grid * right), True)
            for grid, other in product(grids[::5], grids[::3]):
                self.tells(rest_cores(grid) == rest_cores(other), are_rest_led, grid=grid, other=other)
                # With unlike cores they lead unlike numbers of columns to nought, after being taken some times.
                if rest_cores(grid) != rest_cores(other):
                    counts = [[rest_solutions(one * times, Column((Rest(0, modulus),) * height)) for times in range(1, modulus + 1)]
                              for one in (grid, other)]
                    self.same(counts[0] == counts[1], False)

    def test_the_edges(self):
        self.tells((12, 12), rest_cores, grid=nought_grid("rest 12", 2, 5))
        self.tells((12,) * 8, rest_cores, grid=nought_grid("rest 12", 8, 8))
        self.tells((1,), rest_cores, grid=Grid(((Rest(5, 12),),)))
        self.tells((4,), rest_cores, grid=Grid(((Rest(8, 12),),)))
        self.tells((1, 12), rest_cores, grid=led(Grid(((3, 0), (0, 4))), "rest 12"))
        self.tells((1,) * 8, rest_cores, grid=led(Grid(tuple(tuple(int(i == j) for j in range(8)) for i in range(8))), "rest 1000000"))


class Refusals(Told):
    def test_in_their_order(self):
        three, six = nought_grid("rest 3", 2, 3), nought_grid("rest 6", 2, 3)
        for value in NO_GRIDS:
            self.refuses(NotAGrid(value), rest_cores, grid=value)
            self.refuses(NotAGrid(value), are_rest_led, grid=value, other=None)
            self.refuses(NotAGrid(value), are_rest_led, grid=nought_grid("ratio", 1, 1), other=value)
            for call in WITH_COLUMN:
                self.refuses(NotAGrid(value), call, grid=value, column=None)
        for value in NO_COLUMNS:
            for call in WITH_COLUMN:
                self.refuses(NotAColumn(value), call, grid=nought_grid("ratio", 1, 1), column=value)
        for kind in ("whole", "ratio", "poly whole", "poly rest 3"):
            self.refuses(NotRests(kind), rest_cores, grid=nought_grid(kind, 2, 3))
            self.refuses(NotRests(kind), are_rest_led, grid=nought_grid(kind, 2, 3), other=three)
            self.refuses(NotRests(kind), are_rest_led, grid=three, other=nought_grid(kind, 3, 2))
            for call in WITH_COLUMN:
                self.refuses(NotRests(kind), call, grid=nought_grid(kind, 2, 3), column=Column((Rest(1, 3),)))
                self.refuses(NotRests(kind), call, grid=three, column=led(Column((1, 2, 3)), kind))
        self.refuses(Unlike("rest 3", "rest 6"), are_rest_led, grid=three, other=nought_grid("rest 6", 1, 1))
        self.refuses(InvalidShape((2, 3), (1, 1)), are_rest_led, grid=six, other=nought_grid("rest 6", 1, 1))
        for call in WITH_COLUMN:
            self.refuses(Unlike("rest 6", "rest 3"), call, grid=six, column=Column((Rest(1, 3), 1, 1)))
            self.refuses(InvalidShape((2, 3), (3, 1)), call, grid=six, column=Column((Rest(1, 6), 1, 1)))
