from itertools import product
from math import gcd

from drawn import drawn_whole, drawn_whole_of_rank, drawn_whole_turning, lot
from gridwright.blocks import put_blocks
from gridwright.columns import Column
from gridwright.cores import core_numbers
from gridwright.dets import det
from gridwright.errors import InvalidNumber, InvalidShape, NotAColumn, NotAGrid, NotAGroup, NotWhole, TooMany
from gridwright.grids import Grid, nought_grid, one_grid
from gridwright.groups import (
    Group, are_alike, count_of_order, group_sum, leads_number, makers, members, without,
)
from gridwright.lattices import lattice_index, member_by, plain_base, plain_member
from gridwright.leading import led
from gridwright.ratios import Ratio
from gridwright.stairs import rank
from support import SPOILT, Told
from test_columns import NO_COLUMNS
from test_grids import NO_GRIDS

FAR = 10 ** 30
NO_GROUPS = [*SPOILT, 1, one_grid("whole", 2), (2, 4), "2 4"]


def diagonal(*cores):
    return Grid(tuple(tuple(core if i == j else 0 for j in range(len(cores))) for i, core in enumerate(cores)))


def small_groups(name):
    """Groups of few elements, some of them endless ones."""
    source = lot(name)
    for sizes in ((1,), (2,), (7,), (1, 1), (2, 2), (1, 6), (2, 6), (3, 9), (1, 2, 4), (2, 2, 2), (0,), (2, 0), (1, 0, 0), (3, 3, 0)):
        size = len(sizes)
        yield Group(drawn_whole_turning(size, source, 8) * diagonal(*sizes) * drawn_whole_turning(size, source, 8))
    yield Group(Grid(((4,), (6,), (0,))))
    yield Group(Grid(((2, 4, 6),)))
    yield Group(nought_grid("whole", 1, 2))
    for _ in range(6):
        grid = drawn_whole(2, 2, source, 4)
        if abs(det(grid)) < 30:
            yield Group(grid)


def finite(name):
    return [group for group in small_groups(name) if group.number is not None]


def elements(group):
    return [Column(entries) for entries in members(group)]


def plain_order(group, column):
    """The least number of times, up to a bound that is enough here, that the column vanishes."""
    for times in range(1, 200):
        if member_by(group.relations, column * times) is not None:
            return times
    return None


def plain_leads(group, other):
    """How many choices of members for the unit columns make all relations vanish."""
    found = 0
    for images in product(elements(other), repeat=group.width):
        sums = []
        for row in group.relations.rows:
            total = Column((0,) * other.width)
            for number, image in zip(row, images):
                total = total + image * number
            sums.append(member_by(other.relations, total) is not None)
        found += all(sums)
    return found


class Made(Told):
    def test_what_a_group_tells(self):
        for group in small_groups("made"):
            cores = core_numbers(group.relations)
            sizes = tuple(core for core in cores if core != 1) + (0,) * (group.width - rank(led(group.relations, "ratio")))
            total = 1
            for size in sizes:
                total *= size
            self.same([group.sizes, group.width, group.number], [sizes, group.relations.shape[1], total if total else None])
            self.same(group.text, " ".join(str(size) for size in sizes) or "1")
            for size, other in zip(group.sizes, group.sizes[1:]):
                self.same(other % size if size else other, 0)

    def test_known_ones(self):
        known = (
            (Grid(((2, 4), (6, 8))), (2, 4), 8, (2, 4), "2 4"), (Grid(((1,),)), (), 1, (), "1"),
            (Grid(((0,),)), (0,), None, (0,), "0"), (Grid(((2, 0, 0),)), (2, 0, 0), None, (2, 0, 0), "2 0 0"),
            (Grid(((-6,),)), (6,), 6, (2, 3), "6"), (diagonal(6, 12, 0), (6, 12, 0), None, (2, 3, 3, 4, 0), "6 12 0"),
            (diagonal(2, 3), (6,), 6, (2, 3), "6"), (one_grid("whole", 8), (), 1, (), "1"),
            (Grid(((FAR,),)), (FAR,), FAR, (2 ** 30, 5 ** 30), str(FAR)), (Grid(((1,), (5,))), (), 1, (), "1"),
            (diagonal(360, 360), (360, 360), 129600, (5, 5, 8, 8, 9, 9), "360 360"), (nought_grid("whole", 8, 8), (0,) * 8, None, (0,) * 8, "0 " * 7 + "0"),
        )
        for grid, sizes, number, prime_sizes, text in known:
            for group in (Group(grid), Group(relations=grid)):
                self.same([group.relations, group.sizes, group.number, group.prime_sizes, group.text, group.width],
                          [grid, sizes, number, prime_sizes, text, grid.shape[1]])
                self.same([bool(group), type(group.sizes), type(group.prime_sizes)], [True, tuple, tuple])

    def test_prime_sizes(self):
        for group in small_groups("prime sizes"):
            found = group.prime_sizes
            powers = [size for size in found if size]
            self.same(found, tuple(sorted(powers)) + (0,) * group.sizes.count(0))
            for size in powers:
                divisor = next(k for k in range(2, size + 1) if size % k == 0)
                left = size
                while left % divisor == 0:
                    left //= divisor
                self.same(left, 1)
            # The group of these sizes is alike to it.
            if len(found) < 9:
                self.same(are_alike(Group(diagonal(*found)) if found else Group(one_grid("whole", 1)), group), True)

    def test_the_index_and_the_number(self):
        for group in small_groups("indexes"):
            one = one_grid("whole", group.width)
            self.same(lattice_index(group.relations, one), group.number)
            if group.relations.is_square:
                self.same(abs(det(group.relations)), group.number or 0)

    def test_great_sizes_are_told_at_once(self):
        # The parts of this size are hard to find, but only its powers of primes ask for them.
        hard = 1000000000000000000000000000057 * 100000000000000000000000000319
        group = Group(Grid(((hard, 0), (0, hard * 2))))
        self.same([group.sizes, group.number, group.text], [(hard, hard * 2), hard * hard * 2, f"{hard} {hard * 2}"])
        self.same(count_of_order(group, 2), 1)


class Comparing(Told):
    def test_equal_exactly_by_width_and_plain_base(self):
        source = lot("equal groups")
        groups = list(small_groups("comparing"))
        for group in groups:
            again = Group(drawn_whole_turning(len(group.relations), source) * group.relations)
            self.same([group == again, group != again], [True, False])
            more = Group(Grid(group.relations.rows + group.relations.rows[:1]))
            self.same(group == more, True)
            for other in groups:
                alike = group.width == other.width and plain_base(group.relations) == plain_base(other.relations)
                self.same([group == other, group != other], [alike, not alike])
        self.same(Group(diagonal(1, 1)) == Group(diagonal(1)), False)
        self.same(Group(nought_grid("whole", 1, 1)) == Group(nought_grid("whole", 1, 2)), False)
        self.same(Group(diagonal(2, 3)) == Group(diagonal(3, 2)), False)

    def test_other_values(self):
        group = Group(diagonal(2, 4))
        for value in [*NO_GROUPS, Column((1,)), Ratio(1), object()]:
            self.same([group == value, value == group, group != value, value != group], [False, False, True, True])


class Elements(Told):
    def test_plain_members(self):
        for group in small_groups("plain"):
            for entries in product(range(-2, 4), repeat=group.width):
                column = Column(entries)
                self.tells(plain_member(group.relations, column), group.plain, column=column)

    def test_orders(self):
        for group in small_groups("orders"):
            for entries in product(range(-1, 3), repeat=group.width):
                column = Column(entries)
                self.tells(plain_order(group, column), group.order_of, column=column)
        far = Group(Grid(((FAR, 0, 0),)))
        self.same([far.order_of(Column(entries)) for entries in ((1, 0, 0), (2, 0, 0), (FAR, 0, 0), (0, 1, 0))], [FAR, FAR // 2, 1, None])
        nothing = Group(nought_grid("whole", 2, 2))
        self.same([nothing.order_of(Column((0, 0))), nothing.order_of(Column((0, 1)))], [1, None])

    def test_all_members(self):
        for group in small_groups("members"):
            if group.number is None:
                self.refuses(TooMany(None), members, group=group)
                continue
            told = members(group)
            self.tells(told, members, group=group)
            self.same([len(told), list(told)], [group.number, sorted(set(told))])
            for entries in told:
                self.same(group.plain(Column(entries)).entries, entries)
        self.tells(((0,),), members, group=Group(Grid(((1,),))))
        self.tells(((0, 0),), members, group=Group(one_grid("whole", 2)))
        self.same(len(members(Group(diagonal(20, 20)))), 400)
        self.refuses(TooMany(401), members, group=Group(diagonal(1, 401)))
        self.refuses(TooMany(FAR * FAR), members, group=Group(diagonal(FAR, FAR)))

    def test_how_many_have_an_order(self):
        for group in finite("counted orders"):
            orders = [group.order_of(column) for column in elements(group)]
            for order in range(1, 30):
                self.tells(orders.count(order), count_of_order, group=group, order=order)
        for order in range(1, 14):
            # Of an endless group only those that vanish at some time have an order.
            self.same(count_of_order(Group(diagonal(2, 6, 0)), order), count_of_order(Group(diagonal(2, 6)), order))
        self.tells(1, count_of_order, group=Group(Grid(((0,),))), order=1)
        self.tells(0, count_of_order, group=Group(Grid(((0,),))), order=2)
        self.tells(FAR // 10 * 4, count_of_order, group=Group(Grid(((FAR,),))), order=FAR)
        self.tells(0, count_of_order, group=Group(Grid(((FAR,),))), order=FAR + 57)
        self.same(sum(count_of_order(Group(diagonal(4, 8, 24)), order) for order in range(1, 25)), 4 * 8 * 24)

    def test_those_that_vanish_some_times(self):
        for group in finite("vanishing"):
            for times in range(1, 13):
                expected = 1
                for size in group.sizes:
                    expected *= gcd(size, times)
                vanishing = [column for column in elements(group) if not group.plain(column * times)]
                self.same(len(vanishing), expected)
                self.same(sum(count_of_order(group, k) for k in range(1, times + 1) if times % k == 0), expected)


class Leads(Told):
    def test_by_images_of_the_unit_columns(self):
        groups = [group for group in finite("leads") if group.number <= 8]
        for group in small_groups("leads from"):
            for other in groups:
                if group.width < 3 and other.number ** group.width < 100:
                    self.tells(plain_leads(group, other), leads_number, group=group, other=other)

    def test_to_and_from_endless_ones(self):
        endless, six, none = Group(Grid(((0,),))), Group(Grid(((6,),))), Group(Grid(((1,),)))
        self.tells(None, leads_number, group=endless, other=endless)
        self.tells(6, leads_number, group=endless, other=six)
        self.tells(1, leads_number, group=six, other=endless)
        self.tells(1, leads_number, group=none, other=endless)
        self.tells(1, leads_number, group=endless, other=none)
        self.tells(36 * 6, leads_number, group=Group(diagonal(0, 0, 6)), other=six)
        self.tells(None, leads_number, group=Group(diagonal(2, 0)), other=Group(diagonal(6, 0)))
        self.tells(FAR, leads_number, group=Group(Grid(((FAR,),))), other=Group(Grid(((FAR * 7,),))))

    def test_alike_exactly_by_the_sizes(self):
        groups = list(small_groups("alike"))
        for group, other in product(groups, groups[::2]):
            self.tells(group.sizes == other.sizes, are_alike, group=group, other=other)
        self.tells(True, are_alike, group=Group(diagonal(2, 3)), other=Group(Grid(((6,),))))
        self.tells(False, are_alike, group=Group(diagonal(2, 2)), other=Group(Grid(((4,),))))
        self.tells(True, are_alike, group=Group(one_grid("whole", 8)), other=Group(Grid(((-1,),))))


class Makers(Told):
    def test_all_others_are_sums_of_as_few_as_can_be(self):
        for group in small_groups("makers"):
            for found in (makers(group), makers(group=group)):
                self.same([type(found), len(found)], [tuple, len(group.sizes)])
                for column in found:
                    self.same([type(column), column.kind, len(column)], [Column, "whole", group.width])
                # With these as relations more nothing is left.
                rows = plain_base(group.relations) + found
                self.same(plain_base(Grid(tuple(column.entries for column in rows))), plain_base(one_grid("whole", group.width)))

    def test_less_would_not_do(self):
        # With a prime that divides all sizes there are as many classes as its power.
        for group in small_groups("less"):
            if group.sizes and group.sizes[0] != 0:
                prime = next(k for k in range(2, group.sizes[0] + 1) if group.sizes[0] % k == 0)
                doubled = Group(Grid(group.relations.rows + (one_grid("whole", group.width) * prime).rows))
                self.same(doubled.number, prime ** len(makers(group)))

    def test_the_edges(self):
        self.tells((), makers, group=Group(one_grid("whole", 8)))
        self.same(len(makers(Group(nought_grid("whole", 8, 8)))), 8)
        self.same(len(makers(Group(diagonal(2, 3)))), 1)


class GroupsOfGroups(Told):
    def test_sums(self):
        groups = [group for group in small_groups("sums") if group.width < 4]
        for group, other in product(groups, groups[::3]):
            found = group_sum(group, other)
            self.same(found.relations, put_blocks((group.relations, other.relations)))
            self.same(group_sum(group=group, other=other) == found, True)
            if group.number is not None and other.number is not None:
                self.same(found.number, group.number * other.number)
            else:
                self.same(found.number, None)
            self.same(sorted(found.prime_sizes), sorted(group.prime_sizes + other.prime_sizes))
        four = Group(nought_grid("whole", 4, 4))
        self.same(group_sum(four, four).width, 8)
        self.refuses(TooMany(9), group_sum, group=four, other=Group(nought_grid("whole", 1, 5)))
        self.refuses(TooMany(9), group_sum, group=Group(nought_grid("whole", 8, 1)), other=Group(Grid(((1,),))))
        self.refuses(TooMany(16), group_sum, group=Group(nought_grid("whole", 1, 8)), other=Group(nought_grid("whole", 8, 8)))
        self.refuses(TooMany(12), group_sum, group=Group(nought_grid("whole", 6, 4)), other=Group(nought_grid("whole", 6, 5)))

    def test_one_relation_more(self):
        for group in small_groups("one more"):
            for entries in list(product(range(-1, 3), repeat=group.width))[::3]:
                found = without(group, Column(entries))
                self.same(found.relations, Grid(group.relations.rows + (entries,)))
                self.same(without(group=group, column=Column(entries)) == found, True)
                if group.number is not None:
                    order = group.order_of(Column(entries))
                    self.same(found.number, group.number // order)
        full = Group(nought_grid("whole", 8, 2))
        self.refuses(TooMany(9), without, group=full, column=Column((0, 0)))
        self.same(len(without(Group(nought_grid("whole", 7, 2)), Column((3, 0))).relations), 8)


class Refusals(Told):
    def test_relations(self):
        for value in NO_GRIDS:
            self.refuses(NotAGrid(value), Group, relations=value)
        for kind in ("ratio", "rest 3", "rest 6", "poly whole", "poly ratio"):
            self.refuses(NotWhole(kind), Group, relations=nought_grid(kind, 2, 2))

    def test_elements(self):
        group = Group(Grid(((2, 4, 0), (0, 0, 3))))
        for call in (group.plain, group.order_of):
            for value in NO_COLUMNS:
                self.refuses(NotAColumn(value), call, column=value)
            for kind in ("ratio", "rest 3", "poly whole"):
                self.refuses(NotWhole(kind), call, column=led(Column((1, 2)), kind))
            for size in (1, 2, 4, 8):
                self.refuses(InvalidShape((2, 3), (size, 1)), call, column=Column((1,) * size))

    def test_groups(self):
        good = Group(diagonal(2, 4))
        for value in NO_GROUPS:
            for call in (are_alike, leads_number, group_sum):
                self.refuses(NotAGroup(value), call, group=value, other=None)
                self.refuses(NotAGroup(value), call, group=good, other=value)
            for call in (members, makers):
                self.refuses(NotAGroup(value), call, group=value)
            self.refuses(NotAGroup(value), count_of_order, group=value, order=0)
            self.refuses(NotAGroup(value), without, group=value, column=None)
        for value in [*SPOILT, 0, -1, -10 ** 40, Ratio(2)]:
            self.refuses(InvalidNumber(value), count_of_order, group=good, order=value)
        for value in NO_COLUMNS:
            self.refuses(NotAColumn(value), without, group=good, column=value)
        self.refuses(NotWhole("ratio"), without, group=good, column=Column((Ratio(1), 2, 3)))
        self.refuses(InvalidShape((2, 2), (3, 1)), without, group=good, column=Column((1, 2, 3)))

    def test_nothing_that_is_given_changes(self):
        grid = drawn_whole_of_rank(3, 3, 2, lot("unchanged"))
        rows = grid.rows
        group = Group(grid)
        before = (group.sizes, group.number, group.text, group.prime_sizes, group.relations, group.width)
        without(group, Column((1, 2, 3)))
        makers(group)
        leads_number(group, group)
        self.same((group.sizes, group.number, group.text, group.prime_sizes, group.relations, group.width), before)
        self.same(grid.rows, rows)
