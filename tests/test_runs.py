from itertools import product

from drawn import FIELDS, NO_FIELDS, drawn_number, lot, plain_rank
from gridwright.errors import (
    InvalidKind, InvalidNumber, InvalidRun, NotAField, NotAPoly, NotARule, NotMonic, TooMany, Unlike,
)
from gridwright.followers import follower
from gridwright.grids import Grid
from gridwright.kinds import kind_of, nought, number_in, number_of
from gridwright.polys import Poly
from gridwright.ratios import Ratio
from gridwright.rests import Rest
from gridwright.rounds import least_poly
from gridwright.runs import gone_on, is_only, is_rule, least_rule, reach, rule_of, run_bar, run_table
from gridwright.solving import nought_base
from samples import NO_KINDS, monic_by
from support import SPOILT, Told
from test_dividing import NO_POLYS

NO_RUNS = [value for value in SPOILT if not isinstance(value, tuple)] + [1, Ratio(1), Poly("ratio", (1,)), ()]


def plain_is_rule(kind, run, rule):
    """Whether each number from the degree on is what the document says."""
    numbers = [number_in(kind, number) for number in run]
    degree = rule.degree
    for index in range(degree, len(numbers)):
        total = nought(kind)
        for back in range(1, degree + 1):
            total = total - rule.coefficients[degree - back] * numbers[index - back]
        if numbers[index] != total:
            return False
    return True


def is_bar(kind, run, size, bar):
    """Whether numbers are a run bar for a degree, by the words of the document."""
    numbers = [number_in(kind, number) for number in run]
    if type(bar) is not tuple or len(bar) != len(run) - size:
        return False
    sums = []
    for start in range(size + 1):
        total = nought(kind)
        for k, number in enumerate(bar):
            total = total + number * numbers[start + k]
        sums.append(bool(total))
    return sums == [False] * size + [True] and all(kind_of(number) == kind for number in bar)


def by_rule(rule, first, many):
    """A run that a rule makes of its first numbers."""
    numbers = [number_in(rule.kind, number) for number in first]
    while len(numbers) < many:
        total = nought(rule.kind)
        for back in range(1, rule.degree + 1):
            total = total - rule.coefficients[rule.degree - back] * numbers[-back]
        numbers.append(total)
    return tuple(numbers[:many])


def drawn_runs(kind, source):
    """Runs of many lengths: drawn ones, ones by short rules, ones whose rule ends to hold, noughts."""
    for many in (1, 2, 3, 5, 8, 13):
        yield tuple(drawn_number(kind, source) for _ in range(many))
        yield (number_of(kind, 0),) * many
        yield (0,) * (many - 1) + (1,)
        for degree in (1, 2, 3):
            rule = Poly(kind, (*[drawn_number(kind, source) for _ in range(degree)], 1))
            run = by_rule(rule, [drawn_number(kind, source) for _ in range(degree)], many)
            yield run
            yield run[:-1] + (run[-1] + 1,)


class Rules(Told):
    def test_is_rule_by_definition(self):
        for kind in FIELDS:
            source = lot(f"is rule {kind}")
            for run in drawn_runs(kind, source):
                for degree in (0, 1, 2, len(run), len(run) + 3):
                    rule = Poly(kind, (*[drawn_number(kind, source) for _ in range(degree)], 1))
                    self.tells(plain_is_rule(kind, run, rule), is_rule, kind=kind, run=run, rule=rule)
                    self.same(is_rule(kind, by_rule(rule, (run * degree)[:degree], 20) if degree else (0,) * 20, rule), True)
                    if degree >= len(run):
                        self.same(is_rule(kind, run, rule), True)

    def test_degree_nought(self):
        for kind in FIELDS:
            one = Poly(kind, (1,))
            self.tells(True, is_rule, kind=kind, run=(0, 0), rule=one)
            self.tells(False, is_rule, kind=kind, run=(0, 1), rule=one)
            self.tells(one, least_rule, kind=kind, run=(0,) * 40)
            self.tells(0, reach, kind=kind, run=(0,))
            self.tells(True, is_only, kind=kind, run=(0,))

    def test_the_least_rule_by_all_polys(self):
        for prime, most in ((2, 6), (3, 4)):
            polys = sorted(monic_by(prime, most), key=lambda poly: poly.degree)
            for many in range(1, most + 1):
                for run in product(range(prime), repeat=many):
                    rules = [poly for poly in polys if plain_is_rule(f"rest {prime}", run, poly)]
                    least = [poly for poly in rules if poly.degree == rules[0].degree]
                    kind = f"rest {prime}"
                    self.tells(rules[0].degree, reach, kind=kind, run=run)
                    self.assertIn(least_rule(kind, run), least)
                    self.tells(len(least) == 1, is_only, kind=kind, run=run)

    def test_a_rule_of_each_degree_or_a_bar_and_never_both(self):
        for kind in FIELDS:
            for run in drawn_runs(kind, lot(f"bars {kind}")):
                least = least_rule(kind, run)
                self.tells(least, least_rule, kind=kind, run=run)
                self.same([least.kind, plain_is_rule(kind, run, least), least.degree], [kind, True, reach(kind, run)])
                self.same(is_only(kind, run), 2 * least.degree <= len(run))
                for size in {0, 1, 2, 3, least.degree - 1, least.degree, len(run) - 1, len(run), len(run) + 1, 40}:
                    if size >= 0:
                        self.one_of_both(kind, run, size, least.degree)

    def one_of_both(self, kind, run, size, least):
        rule, bar = rule_of(kind, run, size), run_bar(kind, run, size)
        self.tells(rule, rule_of, kind=kind, run=run, size=size)
        self.tells(bar, run_bar, kind=kind, run=run, size=size)
        self.same([rule is not None, bar is None], [size >= least] * 2)
        if rule is not None:
            self.same([rule.kind, rule.degree, rule.lead, plain_is_rule(kind, run, rule)],
                      [kind, size, number_of(kind, 1), True])
        else:
            self.assertTrue(is_bar(kind, run, size, bar))

    def test_the_edges_of_runs(self):
        for kind in FIELDS:
            self.tells(1, reach, kind=kind, run=(5,) if kind != "rest 5" else (1,))
            run = (0,) * 39 + (1,)
            self.tells(40, reach, kind=kind, run=run)
            self.tells(False, is_only, kind=kind, run=run)
            self.tells(None, run_bar, kind=kind, run=run, size=40)
            self.assertTrue(is_bar(kind, run, 39, run_bar(kind, run, 39)))
            self.assertTrue(is_bar(kind, run, 0, run_bar(kind, run, 0)))
            self.same(rule_of(kind, (1,), 40).degree, 40)
            self.tells(None, run_bar, kind=kind, run=(1,), size=40)
            self.tells(None, rule_of, kind=kind, run=(1,), size=0)
            forty = tuple(drawn_number(kind, lot("forty")) for _ in range(40))
            self.same(plain_is_rule(kind, forty, least_rule(kind, forty)), True)

    def test_two_rules_where_twice_the_degree_is_above_the_length(self):
        for kind in FIELDS:
            for run in drawn_runs(kind, lot(f"not only {kind}")):
                least, many = least_rule(kind, run), len(run)
                if not is_only(kind, run) and least.degree < many <= 8:
                    # What the table of the other numbers leads to nought may be added to the rule.
                    table = run_table(kind, run[:-1], many - least.degree)
                    more = Poly(kind, nought_base(table)[0].entries)
                    self.same([bool(more), plain_is_rule(kind, run, least + more)], [True, True])
        self.same([least_rule("ratio", (1, 1, 2, 3, 5, 8)).text, is_only("ratio", (1, 1, 2, 3)), is_only("ratio", (1, 1, 2))],
                  ["poly ratio: (-1/1,-1/1,1/1)", True, False])


class Tables(Told):
    def test_by_definition(self):
        for kind in FIELDS:
            run = tuple(drawn_number(kind, lot("tables")) for _ in range(9))
            for many in (1, 2, 5, 9):
                for height in range(1, many + 1):
                    width = many + 1 - height
                    if max(height, width) <= 8:
                        expected = Grid(tuple(tuple(run[i + j] for j in range(width)) for i in range(height)))
                        self.tells(expected, run_table, kind=kind, run=run[:many], height=height)
        self.tells(Grid(((Ratio(1), 2), (2, 3))), run_table, kind="ratio", run=(1, 2, 3), height=2)

    def test_their_ranks_and_the_follower(self):
        # The rule's degree is the rank of each table with as many rows and places or more, and the follower's least poly.
        for kind in FIELDS:
            source = lot(f"ranks of tables {kind}")
            for degree in (1, 2, 3):
                for _ in range(3):
                    rule = Poly(kind, (*[drawn_number(kind, source) for _ in range(degree)], 1))
                    run = by_rule(rule, [drawn_number(kind, source) for _ in range(degree)], 2 * degree + 3)
                    least = reach(kind, run)
                    for height in range(degree, degree + 4):
                        self.same(plain_rank(run_table(kind, run[:degree + height], height)), least)
                    self.same(rule % least_rule(kind, run), Poly(kind, ()))
                    self.same(least_poly(follower(rule)), rule)


class GoneOn(Told):
    def test_number_by_number(self):
        for kind in FIELDS:
            source = lot(f"gone on {kind}")
            for degree in (0, 1, 2, 4):
                rule = Poly(kind, (*[drawn_number(kind, source) for _ in range(degree)], 1))
                for many in (max(degree, 1), degree + 2):
                    run = by_rule(rule, [drawn_number(kind, source) for _ in range(degree)], many)
                    for more in (0, 1, 7):
                        expected = by_rule(rule, run, many + more)
                        self.tells(expected, gone_on, kind=kind, run=run, rule=rule, many=more)
            self.same(len(gone_on(kind, (1,) * 40, Poly(kind, (-1, 1)), 200)), 240)

    def test_numbers_are_of_the_kind(self):
        self.tells((Ratio(1), Ratio(1), Ratio(2)), gone_on, kind="ratio", run=(1, 1), rule=Poly("ratio", (-1, -1, 1)), many=1)
        self.tells((Rest(1, 2), Rest(1, 2)), gone_on, kind="rest 2", run=(3, 5), rule=Poly("rest 2", (-1, 1)), many=0)


class Refusals(Told):
    def calls(self):
        """Each call with good values."""
        rule = Poly("ratio", (-1, 1))
        return (
            (is_rule, {"rule": rule}), (reach, {}), (least_rule, {}), (is_only, {}), (rule_of, {"size": 1}),
            (run_bar, {"size": 0}), (run_table, {"height": 1}), (gone_on, {"rule": rule, "many": 1}),
        )

    def test_kinds_and_runs_come_first(self):
        for call, more in self.calls():
            nothing = {name: None for name in more}
            for value in [*SPOILT, *NO_KINDS]:
                self.refuses(InvalidKind(value), call, kind=value, run=None, **nothing)
            for kind in NO_FIELDS:
                self.refuses(NotAField(kind), call, kind=kind, run=None, **nothing)
            for value in NO_RUNS:
                self.refuses(InvalidRun(None), call, kind="ratio", run=value, **nothing)
            for value in (*SPOILT, Rest(1, 3), Poly("ratio", (1,))):
                self.refuses(InvalidRun(1), call, kind="ratio", run=(1, value, None), **nothing)
            self.refuses(InvalidRun(0), call, kind="rest 3", run=(Ratio(1),), **nothing)
            self.refuses(InvalidRun(40), call, kind="ratio", run=(1,) * 41, **nothing)
            self.refuses(InvalidRun(40), call, kind="ratio", run=(1,) * 40 + (None,), **nothing)
            self.refuses(InvalidRun(39), call, kind="ratio", run=(1,) * 39 + (None,) * 3, **nothing)

    def test_rules(self):
        for call, more in ((is_rule, {}), (gone_on, {"many": None})):
            for value in NO_POLYS:
                self.refuses(NotAPoly(value), call, kind="ratio", run=(1,), rule=value, **more)
            self.refuses(Unlike("ratio", "whole"), call, kind="ratio", run=(1,), rule=Poly("whole", (0, 2)), **more)
            self.refuses(Unlike("rest 3", "rest 5"), call, kind="rest 3", run=(1,), rule=Poly("rest 5", ()), **more)
            for poly in (Poly("ratio", ()), Poly("ratio", (1, 2)), Poly("ratio", (Ratio(1, 2),))):
                self.refuses(NotMonic(poly), call, kind="ratio", run=(1,), rule=poly, **more)

    def test_sizes(self):
        for call in (rule_of, run_bar):
            for value in [*SPOILT, -1, 41, 10 ** 40, Ratio(1)]:
                self.refuses(InvalidNumber(value), call, kind="ratio", run=(1, 2), size=value)
        for value in [*SPOILT, 0, -1, 3, 10 ** 40, Ratio(1)]:
            self.refuses(InvalidNumber(value), run_table, kind="ratio", run=(1, 2), height=value)
        for height in (1, 2, 9, 10):
            self.refuses(TooMany(max(height, 11 - height)), run_table, kind="ratio", run=(1,) * 10, height=height)
        self.same(run_table("ratio", (1,) * 15, 8).shape, (8, 8))
        self.refuses(TooMany(40), run_table, kind="rest 2", run=(1,) * 40, height=40)

    def test_going_on(self):
        rule = Poly("ratio", (-1, -1, 1))
        for value in [*SPOILT, -1, 201, 10 ** 40, Ratio(1)]:
            self.refuses(InvalidNumber(value), gone_on, kind="ratio", run=(1, 1, 3), rule=rule, many=value)
        self.refuses(NotARule(rule), gone_on, kind="ratio", run=(1, 1, 3), rule=rule, many=0)
        self.refuses(NotARule(rule), gone_on, kind="ratio", run=(1,), rule=rule, many=200)
        one = Poly("ratio", (1,))
        self.refuses(NotARule(one), gone_on, kind="ratio", run=(0, 1), rule=one, many=1)
