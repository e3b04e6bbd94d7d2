from itertools import product

from drawn import KINDS, drawn_column, drawn_number, lot
from gridwright.columns import Column, dot, unit_column
from gridwright.errors import (
    InvalidEntries, InvalidIndex, InvalidKind, InvalidNumber, InvalidShape, InvalidText, NotAColumn, Unlike,
)
from gridwright.grids import Grid
from gridwright.kinds import kind_of, nought, number_of, one
from gridwright.polys import Poly
from gridwright.ratios import Ratio
from gridwright.rests import Rest
from samples import NO_KINDS
from support import SPOILT, Told

SIZES = (1, 2, 3, 8)
NO_COLUMNS = [*SPOILT, 0, 5, Ratio(1), Poly("whole", (1,)), Grid(((1,),)), Column, "column whole: 1", [Column((1,))]]


class Making(Told):
    def test_ordinary_columns(self):
        source = lot("columns")
        for kind, size in product(KINDS, SIZES):
            numbers = tuple(drawn_number(kind, source) for _ in range(size))
            for column in (Column(numbers), Column(entries=numbers)):
                self.same(column.entries, numbers)
                self.same([column.kind, len(column)], [kind, size])
                for index in range(size):
                    self.tells(numbers[index], column.entry, index=index)

    def test_whole_numbers_among_others_become_those_to_which_they_lead(self):
        for kind in KINDS:
            number = one(kind)
            for entries in ((number, 2, -3), (2, number, -3), (2, -3, number)):
                expected = tuple(number_of(kind, entry) if isinstance(entry, int) else entry for entry in entries)
                column = Column(entries)
                self.same([column.kind, column.entries], [kind, expected])

    def test_whole_numbers_alone_stay_whole(self):
        column = Column((1, -2, 10 ** 70))
        self.same([column.kind, column.entries], ["whole", (1, -2, 10 ** 70)])

    def test_what_is_no_tuple_or_empty(self):
        for value in [None, True, 1, "1", [1], [], (), {}, {1: 2}, range(3), Column((1,)), b"1", {1}]:
            self.refuses(InvalidEntries(None), Column, entries=value)

    def test_the_first_wrong_entry(self):
        half, third, poly = Ratio(1, 2), Rest(1, 3), Poly("ratio", (1,))
        told = (
            ((True,), 0), ((False, None), 0), ((None,), 0), (("1",), 0), (((1,),), 0), (([1],), 0), ((Column((1,)),), 0),
            ((1, "1"), 1), ((1, 2, True), 2), ((1, half, third), 2), ((half, third), 1), ((1, third, 2, half, None), 3),
            ((Rest(1, 3), Rest(1, 5)), 1), ((Rest(1, 3), Rest(1, 6)), 1), ((poly, half), 1), ((half, poly), 1),
            ((poly, Poly("whole", (1,))), 1), ((Poly("rest 3", (1,)), 2, third), 2), ((1,) * 9, 8), ((half,) * 10, 8),
            ((1,) * 8 + (None,), 8), ((1,) * 8 + (half, third), 8), ((1,) * 7 + (None, 1), 7), ((1,) * 20, 8),
            ((None,) + (1,) * 8, 0), ((half,) + (1,) * 6 + (third, 1), 7),
        )
        for entries, index in told:
            self.refuses(InvalidEntries(index), Column, entries=entries)

    def test_eight_are_not_too_many(self):
        self.same(len(Column((1,) * 8)), 8)
        self.same(Column((1,) * 7 + (Ratio(1, 2),)).kind, "ratio")

    def test_a_list_that_is_changed_later_changes_nothing(self):
        self.same(Column(tuple([1, 2])).entries, (1, 2))


class Entries(Told):
    def test_what_is_no_index(self):
        for size in SIZES:
            column = Column((1,) * size)
            for value in [*SPOILT, -1, size, size + 1, 10 ** 50, -size, Ratio(0), Rest(0, 2), (0,)]:
                self.refuses(InvalidIndex(value), column.entry, index=value)


class Equality(Told):
    def test_kind_and_entries(self):
        source = lot("equal columns")
        values = [drawn_column(kind, size, source) for kind in KINDS for size in (1, 2)]
        values += [Column((0,)), Column((0, 0)), Column((Ratio(0),)), Column((Rest(0, 3),)), Column((Poly("whole", ()),))]
        for a, b in product(values, values):
            alike = kind_of(a.entries[0]) == kind_of(b.entries[0]) and a.entries == b.entries
            self.same([a == b, a != b], [alike, not alike])
        self.same(Column((1, 2)) == Column((Ratio(1), 2)), False)
        self.same(Column((2, 1)) == Column((1, 2)), False)
        self.same(Column((1,)) == Grid(((1,),)), False)

    def test_truth(self):
        for kind, size in product(KINDS, SIZES):
            for index in range(size):
                filled = tuple(number_of(kind, int(k == index)) for k in range(size))
                self.same(bool(Column(filled)), True)
            self.same(bool(Column((nought(kind),) * size)), False)
        self.same(bool(Column((Rest(2, 4),))), True)


class Signs(Told):
    def test_sums_and_differences_entry_by_entry(self):
        source = lot("sums")
        for kind, size in product(KINDS, SIZES):
            a, b = drawn_column(kind, size, source), drawn_column(kind, size, source)
            self.same((a + b).entries, tuple(x + y for x, y in zip(a.entries, b.entries)))
            self.same((a - b).entries, tuple(x - y for x, y in zip(a.entries, b.entries)))
            self.same((-a).entries, tuple(-x for x in a.entries))
            self.same([a + b, a - b, -a], [b + a, -(b - a), a * -1])
            self.same([(a - a).kind, bool(a - a)], [kind, False])

    def test_products_with_numbers_on_either_side(self):
        source = lot("times")
        for kind, size in product(KINDS, SIZES):
            column = drawn_column(kind, size, source)
            for number in (drawn_number(kind, source), nought(kind), one(kind), 0, 1, -1, 7, 10 ** 30):
                expected = Column(tuple(entry * number for entry in column.entries))
                self.same([column * number, number * column], [expected, expected])
                self.same((column * number).kind, kind)

    def test_unlike_kinds_come_ahead_of_unlike_sizes(self):
        columns = {kind: Column((one(kind), 0)) for kind in KINDS}
        for a, b in product(KINDS, KINDS):
            if a != b:
                for other in (columns[b], Column((one(b),))):
                    self.raises(Unlike(a, b), lambda: columns[a] + other)
                    self.raises(Unlike(a, b), lambda: columns[a] - other)
                    self.refuses(Unlike(a, b), dot, column=columns[a], other=other)
        for a, b in product(SIZES, SIZES):
            if a != b:
                one_, other = Column((1,) * a), Column((1,) * b)
                for action in (lambda: one_ + other, lambda: one_ - other):
                    self.raises(InvalidShape((a, 1), (b, 1)), action)
                self.refuses(InvalidShape((a, 1), (b, 1)), dot, column=one_, other=other)

    def test_nothing_that_is_given_is_changed(self):
        a, b = Column((1, 2)), Column((3, 4))
        for _ in (a + b, a - b, -a, a * 3, dot(a, b), a.text, a.entry(0)):
            self.same([a.entries, b.entries], [(1, 2), (3, 4)])


class Dots(Told):
    def test_the_sum_of_the_products(self):
        source = lot("dots")
        for kind, size in product(KINDS, SIZES):
            a, b = drawn_column(kind, size, source), drawn_column(kind, size, source)
            total = nought(kind)
            for x, y in zip(a.entries, b.entries):
                total = total + x * y
            self.tells(total, dot, column=a, other=b)
            self.tells(nought(kind), dot, column=a * 0, other=b)

    def test_what_is_no_column(self):
        for value in NO_COLUMNS:
            self.refuses(NotAColumn(value), dot, column=value, other=Column((1,)))
            self.refuses(NotAColumn(value), dot, column=Column((1,)), other=value)
            self.refuses(NotAColumn(value), dot, column=value, other=None)


class UnitColumns(Told):
    def test_one_at_the_index(self):
        for kind, size in product(KINDS, range(1, 9)):
            for index in range(size):
                expected = Column(tuple(number_of(kind, int(k == index)) for k in range(size)))
                self.tells(expected, unit_column, kind=kind, size=size, index=index)

    def test_errors_in_their_order(self):
        for value in [*NO_KINDS, *SPOILT]:
            self.refuses(InvalidKind(value), unit_column, kind=value, size=2, index=1)
            self.refuses(InvalidKind(value), unit_column, kind=value, size=0, index=None)
        for value in [*SPOILT, 0, -1, 9, 10 ** 40, Ratio(2)]:
            self.refuses(InvalidNumber(value), unit_column, kind="ratio", size=value, index=0)
            self.refuses(InvalidNumber(value), unit_column, kind="ratio", size=value, index=None)
        for value in [*SPOILT, -1, 3, 8, Ratio(1)]:
            self.refuses(InvalidIndex(value), unit_column, kind="rest 4", size=3, index=value)


class Reading(Told):
    def test_texts_of_columns(self):
        half = Poly("ratio", (0, Ratio(-1, 2)))
        told = {
            "column whole: 0": Column((0,)), "column whole: -1 10 0": Column((-1, 10, 0)),
            "column ratio: 1/2 2/1": Column((Ratio(1, 2), 2)), "column rest 12: 0 11": Column((0, Rest(11, 12))),
            "column poly whole: () (1,-2)": Column((0, Poly("whole", (1, -2)))),
            "column poly ratio: (0/1,-1/2)": Column((half,)), "column poly rest 3: (2) ()": Column((Poly("rest 3", (2,)), 0)),
            "column whole: 1 2 3 4 5 6 7 8": Column((1, 2, 3, 4, 5, 6, 7, 8)),
        }
        for text, column in told.items():
            self.same(column.text, text)
            self.tells(column, Column.read, text=text)

    def test_what_is_no_text_of_a_column(self):
        texts = [
            "column", "column ", "column whole", "column whole:", "column whole: ", "column whole:1", "column whole:  1",
            "column whole: 1 ", " column whole: 1", "column  whole: 1", "column whole: 1  2", "column whole: 1,2",
            "column whole: 1; 2", "column whole: 01", "column whole: +1", "column whole: -0", "column whole: 1/1",
            "column ratio: 1", "column ratio: 2/4", "column ratio: 1/0", "column ratio: 1/-2", "column rest 3: 3",
            "column rest 3: -1", "column rest 03: 1", "column rest 1: 0", "column rest: 1", "column poly: 1",
            "column poly whole: 1", "column poly whole: (1,0)", "column poly whole: (0)", "column poly rest 4: (1)",
            "column whole: 1 2 3 4 5 6 7 8 9", "Column whole: 1", "grid whole: 1", "column grid: 1", "1", "whole: 1",
            "column whole: one", "column whole: 1\n", "column\nwhole: 1", "column whole: 1: 2", "poly whole: (1)",
        ]
        for value in [*SPOILT, *texts, 1, Column((1,)), ("column whole: 1",)]:
            self.refuses(InvalidText(value), Column.read, text=value)
