from itertools import product
from math import gcd

from drawn import (
    drawn_whole, drawn_whole_of_rank, drawn_whole_turning, is_member, lot, plain_common_minor, plain_sum,
    stands_in_whole_stairs,
)
from gridwright.columns import Column, dot
from gridwright.dets import det
from gridwright.errors import InvalidNumber, InvalidShape, NotAColumn, NotAGrid, NotWhole, NotWithin
from gridwright.grids import Grid, from_rows, nought_grid, one_grid
from gridwright.lattices import (
    common_minor, completed, filled, is_filled, lattice_index, lattice_meet, lattice_sum, lies_within, member_bar, member_by,
    plain_base, plain_member, same_lattice,
)
from gridwright.leading import led
from gridwright.ratios import Ratio
from gridwright.sides import is_turning
from gridwright.stairs import rank
from gridwright.wholestairs import whole_stair
from support import SPOILT, Told
from test_columns import NO_COLUMNS
from test_grids import NO_GRIDS

ALONE = (plain_base, filled, is_filled, completed)
PAIRS = (same_lattice, lies_within, lattice_sum, lattice_meet, lattice_index)
WITH_COLUMN = (member_by, member_bar, plain_member)
SMALL = ((1, 1), (1, 2), (2, 2), (3, 2), (2, 3), (3, 3))
GREAT = ((1, 8), (8, 1), (5, 8), (8, 5), (8, 8))
WINDOW = {1: range(-6, 7), 2: range(-4, 5), 3: range(-2, 3)}


def small_grids(name, most=4):
    source = lot(name)
    for height, width in SMALL:
        for wanted in range(min(height, width) + 1):
            yield drawn_whole_of_rank(height, width, wanted, source, 2)
        for _ in range(3):
            yield drawn_whole(height, width, source, most)


def great_grids(name):
    source = lot(name)
    for height, width in GREAT:
        for wanted in sorted({0, 1, min(height, width) - 1, min(height, width)}):
            yield drawn_whole_of_rank(height, width, wanted, source)
        yield drawn_whole(height, width, source, 10 ** 30)


def window(width):
    """Some columns around nought."""
    for entries in product(WINDOW[width], repeat=width):
        yield Column(entries)


def as_ratios(column):
    return led(column, "ratio")


def is_whole(column):
    return all(entry.is_whole for entry in column.entries)


class PlainBases(Told):
    def test_rows_of_the_whole_stair_form(self):
        for grid in [*small_grids("plain bases"), *great_grids("great plain bases")]:
            expected = tuple(Column(row) for row in whole_stair(grid).rows if any(row))
            self.tells(expected, plain_base, grid=grid)
            if expected:
                self.same(stands_in_whole_stairs(from_rows(expected)), True)
        self.tells((), plain_base, grid=nought_grid("whole", 3, 8))

    def test_equal_lattices_and_only_these(self):
        source = lot("equal lattices")
        for grid in [*small_grids("equal"), *great_grids("great equal")]:
            other = drawn_whole_turning(len(grid), source) * grid
            self.tells(True, same_lattice, grid=grid, other=other)
            self.same(plain_base(grid), plain_base(other))
            if any(any(row) for row in grid.rows):
                self.tells(False, same_lattice, grid=grid, other=grid * 2)
        for first in small_grids("unlike"):
            for other in small_grids("unlike"):
                if first.shape[1] == other.shape[1]:
                    alike = all(is_member(first, row) for row in other.rows) and all(is_member(other, row) for row in first.rows)
                    self.same([same_lattice(first, other), plain_base(first) == plain_base(other)], [alike] * 2)

    def test_of_unlike_heights(self):
        self.tells(True, same_lattice, grid=Grid(((2, 4), (3, 6), (0, 0))), other=Grid(((1, 2),)))
        self.tells(False, same_lattice, grid=Grid(((2, 4), (4, 8))), other=Grid(((1, 2),)))


class Members(Told):
    def holds(self, grid, column, expected=None):
        """That numbers by which the rows add up to the column are told, or a bar, and never both."""
        found, against = member_by(grid, column), member_bar(grid, column)
        self.same(found is None, against is not None)
        if expected is not None:
            self.same(found is not None, expected)
        for told in (found, member_by(grid=grid, column=column)):
            if found is not None:
                self.same([told.kind, len(told), grid.turned * told], ["whole", len(grid), column])
        for told in (against, member_bar(grid=grid, column=column)):
            if against is not None:
                self.same([told.kind, len(told)], ["ratio", grid.shape[1]])
                self.same([is_whole(as_ratios(grid) * told), dot(told, as_ratios(column)).is_whole], [True, False])

    def test_small_ones(self):
        for grid in small_grids("members"):
            for column in window(grid.shape[1]):
                self.holds(grid, column, is_member(grid, column.entries))

    def test_great_ones(self):
        source = lot("great members")
        for grid in great_grids("members of great ones"):
            self.holds(grid, plain_sum(grid.turned.columns, [source.randint(-9, 9) for _ in grid.rows]), True)
            self.holds(grid, Column(tuple(source.randint(-5, 5) for _ in range(grid.shape[1]))))
            self.holds(grid, Column((0,) * grid.shape[1]), True)

    def test_the_edges(self):
        self.holds(nought_grid("whole", 3, 2), Column((0, 0)), True)
        self.holds(nought_grid("whole", 3, 2), Column((0, 1)), False)
        self.holds(Grid(((2, 4),)), Column((1, 2)), False)
        self.holds(Grid(((2, 4),)), Column((2, 5)), False)
        self.holds(Grid(((10 ** 30, 0), (1, 10 ** 30))), Column((10 ** 30 - 1, -10 ** 30)), True)
        self.holds(Grid(((10 ** 30, 0), (1, 10 ** 30))), Column((1, 1)), False)

    def test_plain_members(self):
        for grid in [*small_grids("plain members"), *great_grids("great plain members")]:
            source = lot("columns")
            columns = list(window(grid.shape[1]))[::7] if grid.shape[1] < 4 else [
                Column(tuple(source.randint(-10 ** 20, 10 ** 20) for _ in range(grid.shape[1]))) for _ in range(2)]
            for column in columns:
                plain = plain_member(grid, column)
                self.tells(plain, plain_member, grid=grid, column=column)
                self.assertIsNotNone(member_by(grid, column - plain))
                for base in plain_base(grid):
                    place = [bool(entry) for entry in base.entries].index(True)
                    self.assertTrue(0 <= plain.entries[place] < base.entries[place])
                for row in grid.turned.columns:
                    self.same(plain_member(grid, column + row * 3), plain)


class SumsAndMeets(Told):
    def pairs(self, name):
        for first in small_grids(name, 3):
            for other in small_grids(name + " others", 3):
                if first.shape[1] == other.shape[1]:
                    yield first, other

    def test_by_members(self):
        for k, (first, other) in enumerate(self.pairs("sums and meets")):
            if k % 3:
                continue
            total, shared = lattice_sum(first, other), lattice_meet(first, other)
            self.tells(total, lattice_sum, grid=first, other=other)
            self.tells(shared, lattice_meet, grid=first, other=other)
            width = first.shape[1]
            both = Grid(first.rows + other.rows)
            self.same(total, plain_base(both))
            for column in shared:
                self.same([is_member(first, column.entries), is_member(other, column.entries)], [True, True])
            for base in (total, shared):
                if base:
                    self.same(stands_in_whole_stairs(from_rows(base)), True)
            meeting = from_rows(shared) if shared else nought_grid("whole", 1, width)
            for column in list(window(width))[::3]:
                inside = member_by(first, column) is not None and member_by(other, column) is not None
                self.same(member_by(meeting, column) is not None, inside)
            # Both together have as many columns in their bases as the sum and the meet.
            self.same(len(total) + len(shared), rank(led(first, "ratio")) + rank(led(other, "ratio")))

    def test_great_ones(self):
        source = lot("great meets")
        for _ in range(6):
            first, other = drawn_whole(6, 8, source), drawn_whole(7, 8, source)
            shared = lattice_meet(first, other)
            self.same(len(lattice_sum(first, other)) + len(shared), 13)
            for column in shared:
                self.same([lies_within(from_rows((column,)), lattice) for lattice in (first, other)], [True, True])
        square, small = drawn_whole(8, 8, source), drawn_whole(8, 8, source)
        # The indexes of the one in the sum and of the meet in the other are the same.
        total, shared = from_rows(lattice_sum(square, small)), from_rows(lattice_meet(square, small))
        self.same(lattice_index(square, total), lattice_index(shared, small))
        self.same(lattice_sum(square, square), plain_base(square))
        self.same(lattice_meet(square, square * 6), plain_base(square * 6))

    def test_the_edges(self):
        zero = nought_grid("whole", 2, 3)
        one = one_grid("whole", 3)
        self.tells((), lattice_meet, grid=zero, other=one)
        self.tells((), lattice_sum, grid=zero, other=zero)
        self.tells(plain_base(one), lattice_sum, grid=zero, other=one)
        self.tells((Column((0, 0, 15)),), lattice_meet, grid=Grid(((1, 0, 0), (0, 0, 3))), other=Grid(((0, 1, 0), (0, 0, 5))))


class Within(Told):
    def test_by_members(self):
        for first in small_grids("within", 3):
            for other in small_grids("within others", 2):
                if first.shape[1] == other.shape[1]:
                    expected = all(is_member(other, row) for row in first.rows)
                    self.tells(expected, lies_within, grid=first, other=other)
                    if not expected:
                        self.refuses(NotWithin(), lattice_index, grid=first, other=other)
                    elif len(plain_base(first)) != len(plain_base(other)):
                        self.tells(None, lattice_index, grid=first, other=other)

    def test_the_index_counts_classes(self):
        # The plain members of the greater lattice's columns in a wide window, each once.
        for first in (Grid(((2, 0), (0, 3))), Grid(((2, 1), (1, 3))), Grid(((4, 6), (0, 2))), Grid(((0, 5), (1, 1)))):
            classes = {plain_member(first, Column(entries)).text for entries in product(range(-12, 13), repeat=2)}
            self.tells(len(classes), lattice_index, grid=first, other=one_grid("whole", 2))
            self.same(abs(det(first)), len(classes))
        greater = Grid(((2, 4, 0), (0, 1, 1)))
        lesser = Grid(((4, 10, 2), (6, 12, 0)))
        members = [greater.turned * Column(numbers) for numbers in product(range(-12, 13), repeat=2)]
        classes = {plain_member(lesser, column).text for column in members}
        self.tells(len(classes), lattice_index, grid=lesser, other=greater)

    def test_of_square_grids_it_is_the_size_of_the_determinant(self):
        source = lot("indexes")
        for size in (1, 2, 4, 8):
            for _ in range(4):
                outer, times = drawn_whole(size, size, source, 5), drawn_whole(size, size, source, 5)
                if det(outer) and det(times):
                    self.tells(abs(det(times)), lattice_index, grid=times * outer, other=outer)
                    self.same(lattice_index(outer, one_grid("whole", size)), abs(det(outer)))

    def test_the_edges(self):
        zero = nought_grid("whole", 2, 3)
        self.tells(1, lattice_index, grid=zero, other=nought_grid("whole", 1, 3))
        self.tells(None, lattice_index, grid=zero, other=one_grid("whole", 3))
        self.tells(10 ** 30, lattice_index, grid=Grid(((10 ** 30, 0), (0, 1))), other=one_grid("whole", 2))
        self.tells(None, lattice_index, grid=Grid(((2, 0),)), other=one_grid("whole", 2))
        self.tells(1, lattice_index, grid=Grid(((2, 0), (4, 0))), other=Grid(((-2, 0),)))
        self.tells(True, lies_within, grid=zero, other=zero)


class Filled(Told):
    def test_the_least_filled_lattice(self):
        for grid in [*small_grids("filled"), *great_grids("great filled")]:
            base = filled(grid)
            self.tells(base, filled, grid=grid)
            self.same(len(base), len(plain_base(grid)))
            if not base:
                continue
            whole = from_rows(base)
            self.same([lies_within(grid, whole), is_filled(whole), filled(whole)], [True, True, base])
            if len(base) < 4:
                self.same(plain_common_minor(whole, len(base)), 1)
            # Of the same rank and filled, it has nothing that does not vanish in the grid's span.
            self.assertIsNotNone(lattice_index(grid, whole))

    def test_whether_it_is_filled(self):
        for grid in small_grids("is filled"):
            size = len(plain_base(grid))
            expected = plain_common_minor(grid, size) == 1
            self.tells(expected, is_filled, grid=grid)
            for column in window(grid.shape[1]):
                for times in (2, 3):
                    if expected and member_by(grid, column * times) is not None:
                        self.assertIsNotNone(member_by(grid, column))
        self.tells(True, is_filled, grid=nought_grid("whole", 2, 8))
        self.tells(False, is_filled, grid=Grid(((0, 0, 2),)))
        self.tells(True, is_filled, grid=Grid(((0, 4, 3),)))


class CommonMinors(Told):
    def test_the_greatest_divisor_of_all_minors(self):
        for grid in small_grids("common minors"):
            for size in range(1, min(grid.shape) + 1):
                self.tells(plain_common_minor(grid, size), common_minor, grid=grid, size=size)

    def test_great_ones(self):
        source = lot("great common minors")
        grid = drawn_whole(8, 8, source, 10 ** 30)
        self.tells(abs(det(grid)), common_minor, grid=grid, size=8)
        shared = 0
        for row in grid.rows:
            for entry in row:
                shared = gcd(shared, entry)
        self.tells(shared * 6, common_minor, grid=grid * 6, size=1)
        self.tells(0, common_minor, grid=drawn_whole_of_rank(8, 8, 5, source), size=6)
        for size in range(1, 9):
            self.tells(6 ** size, common_minor, grid=one_grid("whole", 8) * 6, size=size)

    def test_turning_on_both_sides_changes_none(self):
        source = lot("turned minors")
        for grid in small_grids("common minors turned"):
            turned = drawn_whole_turning(len(grid), source) * grid * drawn_whole_turning(grid.shape[1], source)
            for size in range(1, min(grid.shape) + 1):
                self.same(common_minor(turned, size), common_minor(grid, size))


class Completions(Told):
    def test_the_first_rows_of_a_turning_grid(self):
        source = lot("completions")
        for size in (1, 2, 3, 5, 8):
            for height in range(1, size + 1):
                first = Grid(drawn_whole_turning(size, source, 30).rows[:height])
                for found in (completed(first), completed(grid=first)):
                    self.same([found.shape, found.kind, is_turning(found)], [(size, size), "whole", True])
                    self.same(found.rows[:height], first.rows)

    def test_exactly_if_the_common_minor_is_one(self):
        for grid in small_grids("completed"):
            height, width = grid.shape
            if height > width or plain_common_minor(grid, height) != 1:
                self.tells(None, completed, grid=grid)
            else:
                self.same([completed(grid).rows[:height], is_turning(completed(grid))], [grid.rows, True])
        self.tells(None, completed, grid=Grid(((2, 4),)))
        self.tells(None, completed, grid=Grid(((1,), (0,))))
        self.tells(None, completed, grid=nought_grid("whole", 1, 1))
        far = 10 ** 30
        self.same(det(completed(Grid(((far, far + 1),)))) in (1, -1), True)


class Refusals(Told):
    def test_no_grids_and_no_whole_ones(self):
        whole, wide = one_grid("whole", 2), nought_grid("whole", 2, 3)
        for value in NO_GRIDS:
            for call in ALONE:
                self.refuses(NotAGrid(value), call, grid=value)
            for call in PAIRS:
                self.refuses(NotAGrid(value), call, grid=value, other=None)
                self.refuses(NotAGrid(value), call, grid=nought_grid("ratio", 1, 3), other=value)
            for call in WITH_COLUMN:
                self.refuses(NotAGrid(value), call, grid=value, column=None)
        for value in NO_COLUMNS:
            for call in WITH_COLUMN:
                self.refuses(NotAColumn(value), call, grid=nought_grid("ratio", 1, 3), column=value)
        for kind in ("ratio", "rest 3", "rest 6", "poly whole"):
            for call in ALONE:
                self.refuses(NotWhole(kind), call, grid=nought_grid(kind, 2, 2))
            for call in PAIRS:
                self.refuses(NotWhole(kind), call, grid=nought_grid(kind, 2, 3), other=whole)
                self.refuses(NotWhole(kind), call, grid=wide, other=nought_grid(kind, 2, 2))
            self.refuses(NotWhole(kind), common_minor, grid=nought_grid(kind, 2, 2), size=2)
        for call in PAIRS:
            self.refuses(InvalidShape((2, 3), (2, 2)), call, grid=wide, other=whole)
        for call in WITH_COLUMN:
            self.refuses(InvalidShape((2, 3), (2, 1)), call, grid=wide, column=Column((1, 2)))

    def test_sizes_of_common_minors(self):
        for shape in ((1, 1), (2, 5), (5, 2), (8, 8)):
            for value in [*SPOILT, 0, -1, min(shape) + 1, 10 ** 40, Ratio(1)]:
                self.refuses(InvalidNumber(value), common_minor, grid=nought_grid("whole", *shape), size=value)
                self.refuses(InvalidNumber(value), common_minor, grid=nought_grid("ratio", *shape), size=value)
