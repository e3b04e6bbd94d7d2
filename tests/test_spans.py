from itertools import combinations, product

from drawn import FIELDS, NO_FIELDS, all_columns, drawn_column, drawn_number, drawn_of_rank, lot, plain_sum, span_of
from gridwright.columns import Column, dot, unit_column
from gridwright.errors import InvalidColumns, InvalidShape, NotAColumn, NotAField, Unlike
from gridwright.grids import Grid, from_columns, from_rows
from gridwright.kinds import kind_of, nought, one
from gridwright.ratios import Ratio
from gridwright.rests import Rest
from gridwright.spans import bar_base, base_of, chosen, in_span, is_free, meet_base, relation, sum_base
from gridwright.stairs import rank, stair_form
from support import SPOILT, Told
from test_columns import NO_COLUMNS

ALONE = (base_of, is_free, relation, chosen, bar_base)


def drawn_columns(kind, size, many, source, of_rank=None):
    """Columns, more than eight if asked, whose span has at most so many in its base."""
    made = drawn_of_rank(kind, size, 8, min(size, 8 if of_rank is None else of_rank), source).columns
    columns = []
    for _ in range(many):
        columns.append(plain_sum(made, [drawn_number(kind, source) for _ in made]))
    return tuple(columns)


def nought_column(kind, size):
    return Column((nought(kind),) * size)


class Bases(Told):
    def test_rows_of_the_stair_form(self):
        source = lot("bases")
        for kind, size, many in product(FIELDS, (1, 3, 8), (1, 2, 4, 8)):
            for wanted in (0, 1, 2, size):
                columns = drawn_columns(kind, size, many, source, wanted)
                form = stair_form(from_rows(columns))
                expected = tuple(Column(row) for row in form.rows if any(row))
                self.tells(expected, base_of, columns=columns)
                self.tells(len(expected) == many, is_free, columns=columns)

    def test_noughts_alone(self):
        for kind, size, many in product(FIELDS, (1, 8), (1, 3, 20)):
            columns = (nought_column(kind, size),) * many
            self.tells((), base_of, columns=columns)
            self.tells(False, is_free, columns=columns)
            self.tells((), chosen, columns=columns)

    def test_more_than_eight_columns(self):
        source = lot("many columns")
        for kind, size, many in product(FIELDS, (2, 8), (9, 12, 40)):
            columns = drawn_columns(kind, size, many, source)
            base = base_of(columns)
            self.same(stair_form(from_rows(base)), from_rows(base))
            for column in columns:
                self.same(in_span(base, column) is not None, True)
            for column in base:
                numbers = in_span(columns, column)
                self.same([len(numbers), plain_sum(columns, numbers)], [many, column])
            self.tells(False, is_free, columns=columns)
            numbers = relation(columns)
            self.same([plain_sum(columns, numbers), any(numbers)], [nought_column(kind, size), True])

    def test_equal_spans_and_only_these_have_equal_bases(self):
        every = list(all_columns(2, 3))
        bases = {}
        for many in (1, 2, 3):
            for columns in combinations(every, many):
                base = tuple(column.text for column in base_of(columns))
                span = frozenset(span_of(columns, 2))
                self.same(bases.setdefault(span, base), base)
                self.same(span_of(base_of(columns), 2) if base else {every[0].text}, set(span))
        self.same(len(set(bases.values())), len(bases))


class Numbers(Told):
    def test_numbers_with_which_columns_add_up(self):
        source = lot("in spans")
        for kind, size, many in product(FIELDS, (1, 3, 8), (1, 3, 10)):
            columns = drawn_columns(kind, size, many, source, 2)
            for column in (plain_sum(columns, [drawn_number(kind, source) for _ in columns]), nought_column(kind, size)):
                for found in (in_span(columns, column), in_span(columns=columns, column=column)):
                    self.same([type(found), len(found), plain_sum(columns, found)], [tuple, many, column])
                    self.same({kind_of(number) for number in found} == {kind}, True)
            other = drawn_column(kind, size, source)
            grown = len(base_of((*columns, other))) > len(base_of(columns))
            self.same(in_span(columns, other) is None, grown)

    def test_all_small_spans(self):
        every = list(all_columns(3, 2))
        for columns in combinations(every, 2):
            span = span_of(columns, 3)
            for column in every:
                found = in_span(columns, column)
                self.same(found is not None, column.text in span)
                if found is not None:
                    self.same(plain_sum(columns, found), column)

    def test_relations(self):
        source = lot("relations")
        for kind, size, many in product(FIELDS, (1, 3, 8), (1, 2, 5, 9)):
            for wanted in (0, 1, 3, size):
                columns = drawn_columns(kind, size, many, source, wanted)
                for found in (relation(columns), relation(columns=columns)):
                    self.same(found is None, is_free(columns))
                    if found is not None:
                        self.same([type(found), len(found), any(found)], [tuple, many, True])
                        self.same(plain_sum(columns, found), nought_column(kind, size))
                        self.same({kind_of(number) for number in found} == {kind}, True)
        for kind in FIELDS:
            units = tuple(unit_column(kind, 8, k) for k in range(8))
            self.tells(None, relation, columns=units)
            self.tells(True, is_free, columns=units)

    def test_chosen_ones(self):
        source = lot("chosen")
        for kind, size, many in product(FIELDS, (1, 3, 8), (1, 3, 10)):
            columns = drawn_columns(kind, size, many, source, 2)
            columns = (columns[0] * 0, *columns[1:], columns[0] * 0)
            expected = [k for k in range(len(columns)) if len(base_of(columns[:k + 1])) > (len(base_of(columns[:k])) if k else 0)]
            self.tells(tuple(expected), chosen, columns=columns)
            self.same([base_of(tuple(columns[k] for k in expected)) if expected else ()], [base_of(columns)])
        one_, two = Column((Ratio(0), 1)), Column((Ratio(1), 1))
        self.tells((1, 3), chosen, columns=(one_ * 0, one_, one_ * 2, two, two - one_))


class SumsAndMeets(Told):
    def test_bases_of_sum_and_meet(self):
        source = lot("sums and meets")
        for kind, size in product(FIELDS, (1, 2, 4, 8)):
            for first, second in ((0, 1), (1, 1), (2, 3), (4, 3), (8, 2), (6, 6)):
                columns = drawn_columns(kind, size, 4, source, first)
                others = drawn_columns(kind, size, 11, source, second)
                total, meet = sum_base(columns, others), meet_base(columns, others)
                self.tells(total, sum_base, columns=columns, others=others)
                self.tells(meet, meet_base, columns=columns, others=others)
                self.same([total, meet], [sum_base(others, columns), meet_base(others, columns)])
                self.same(total, base_of(columns + others))
                self.same(len(total) + len(meet), len(base_of(columns)) + len(base_of(others)))
                for column in meet:
                    self.same([in_span(columns, column) is None, in_span(others, column) is None], [False, False])
                self.same(base_of(meet) if meet else (), meet)
                self.same([meet_base(columns, columns), sum_base(columns, columns)], [base_of(columns)] * 2)

    def test_all_small_spans(self):
        every = list(all_columns(2, 3))
        for a, b in product(combinations(every, 2), repeat=2):
            meet, total = span_of(a, 2) & span_of(b, 2), span_of(a + b, 2)
            base = meet_base(a, b)
            self.same(span_of(base, 2) if base else {every[0].text}, meet)
            base = sum_base(a, b)
            self.same(span_of(base, 2) if base else {every[0].text}, total)

    def test_single_columns(self):
        source = lot("single columns")
        for kind in FIELDS:
            one_, other = drawn_column(kind, 3, source), drawn_column(kind, 3, source)
            for a, b in ((one_, other), (one_, one_), (one_, one_ * 0), (one_ * 0, one_)):
                both = base_of((a, b))
                self.tells(both, sum_base, columns=(a,), others=(b,))
                expected = base_of((a,)) if len(base_of((a,))) + len(base_of((b,))) > len(both) else ()
                self.tells(expected, meet_base, columns=(a,), others=(b,))

    def test_bars(self):
        source = lot("bars")
        for kind, size in product(FIELDS, (1, 2, 4, 8)):
            for many, wanted in ((1, 1), (2, 0), (3, 2), (12, 5), (12, 8)):
                columns = drawn_columns(kind, size, many, source, wanted)
                bars = bar_base(columns)
                self.tells(bars, bar_base, columns=columns)
                self.same(len(bars), size - len(base_of(columns)))
                self.same(base_of(bars) if bars else (), bars)
                for bar, column in product(bars, columns):
                    self.same(dot(bar, column), nought(kind))
                back = bar_base(bars) if bars else tuple(unit_column(kind, size, k) for k in range(size))
                self.same(back, base_of(columns))

    def test_bars_of_small_spans(self):
        every = list(all_columns(2, 3))
        for columns in combinations(every, 2):
            bars = {bar.text for bar in every if not any(dot(bar, column) for column in columns)}
            base = bar_base(columns)
            self.same(span_of(base, 2) if base else {every[0].text}, bars)

    def test_turned_over_the_rank_stays(self):
        source = lot("turned spans")
        for kind in FIELDS:
            columns = drawn_columns(kind, 5, 6, source, 3)
            self.same(len(base_of(from_columns(columns).turned.columns)), rank(from_columns(columns)))


class Refusals(Told):
    def wrong_columns(self, kind):
        a, b, short = Column((one(kind), 2)), Column((Rest(1, 7), 2)), Column((one(kind),))
        grid = Grid(((1, 2),))
        return ((None, None), ((), None), ([a], None), (a, None), ("ab", None), (5, None), ((None,), 0), ((grid,), 0),
                (((1, 2),), 0), ((a, b), 1), ((a, short), 1), ((a, a, None), 2), ((a, None, b), 1), ((a,) * 30 + (short,), 30),
                ((a,) * 9 + (b, None), 9), ((short, a), 1), ((a, Column((1, 2)) if kind != "whole" else b), 1))

    def test_columns_that_are_wrong(self):
        good = (Column((Ratio(1), 2)),)
        for kind in ("whole", "ratio", "rest 4"):
            for value, index in self.wrong_columns(kind):
                for call in ALONE:
                    self.refuses(InvalidColumns(index), call, columns=value)
                self.refuses(InvalidColumns(index), in_span, columns=value, column=good[0])
                self.refuses(InvalidColumns(index), in_span, columns=value, column=None)
                for call in (sum_base, meet_base):
                    self.refuses(InvalidColumns(index), call, columns=value, others=good)
                    self.refuses(InvalidColumns(index), call, columns=value, others=())
                    self.refuses(InvalidColumns(index), call, columns=good, others=value)
                    self.refuses(InvalidColumns(index), call, columns=(Column((1,)),), others=value)

    def test_columns_over_no_field(self):
        for kind, size in product(NO_FIELDS, (1, 3)):
            columns = (nought_column(kind, size),) * 3
            for call in ALONE:
                self.refuses(NotAField(kind), call, columns=columns)
            for other in FIELDS:
                good = nought_column(other, 2)
                self.refuses(NotAField(kind), in_span, columns=columns, column=good)
                self.refuses(NotAField(kind), in_span, columns=(good,), column=columns[0])
                for call in (sum_base, meet_base):
                    self.refuses(NotAField(kind), call, columns=columns, others=(good,))
                    self.refuses(NotAField(kind), call, columns=(good,), others=columns)
                    self.refuses(NotAField(kind), call, columns=columns, others=(nought_column("rest 8", 1),))

    def test_unlike_kinds_and_sizes(self):
        for a, b in product(FIELDS, FIELDS):
            for size, other in ((2, 2), (2, 3), (1, 8)):
                first, second = nought_column(a, size), nought_column(b, other)
                if a != b:
                    error = Unlike(a, b)
                elif size != other:
                    error = InvalidShape((size, 1), (other, 1))
                else:
                    continue
                self.refuses(error, in_span, columns=(first, first), column=second)
                self.refuses(error, sum_base, columns=(first,), others=(second, second))
                self.refuses(error, meet_base, columns=(first,), others=(second, second))

    def test_no_column(self):
        good = (Column((Ratio(1), 2)),)
        for value in [*NO_COLUMNS, *SPOILT]:
            self.refuses(NotAColumn(value), in_span, columns=good, column=value)
            self.refuses(NotAColumn(value), in_span, columns=(Column((1,)),), column=value)
