from itertools import product

from drawn import FIELDS, NO_FIELDS, drawn_number, lot
from gridwright.dividing import common
from gridwright.errors import (
    InvalidKind, InvalidNumber, InvalidRun, NoRound, NotAField, NotAPoly, NotMonic, NotRests, TooMany, Unlike,
)
from gridwright.farruns import far, product_rule, rule_round, step_rule, sum_rule
from gridwright.followers import follower
from gridwright.grids import one_grid
from gridwright.kinds import number_in
from gridwright.leading import led
from gridwright.polys import Poly
from gridwright.ratios import Ratio
from gridwright.rests import Rest
from gridwright.runs import gone_on, is_rule
from gridwright.sides import is_turning
from samples import NO_KINDS, is_part, monic_by
from support import SPOILT, Told
from test_dividing import NO_POLYS
from test_runs import NO_RUNS, by_rule

FAR = 10 ** 30


def drawn_rules(kind, source, degrees=(1, 2, 3)):
    for degree in degrees:
        yield Poly(kind, (*[drawn_number(kind, source) for _ in range(degree)], 1))


class Far(Told):
    def test_one_after_the_other(self):
        for kind in FIELDS:
            source = lot(f"far {kind}")
            for rule in drawn_rules(kind, source, (1, 2, 3, 5)):
                first = tuple(drawn_number(kind, source) for _ in range(rule.degree))
                run = by_rule(rule, first, 41)
                for index in (0, 1, 2, 3, 7, 40):
                    self.tells(run[index], far, kind=kind, run=first, rule=rule, index=index)

    def test_by_the_follower(self):
        # Turned over the follower leads a stretch of the run one step on.
        for kind in ("rest 2", "rest 3", "rest 97", "rest 999983"):
            source = lot(f"far by followers {kind}")
            for rule in drawn_rules(kind, source, (1, 2, 4, 8)):
                first = tuple(drawn_number(kind, source) for _ in range(rule.degree))
                for index in (FAR, FAR - 1, 12345678901234567890):
                    power = follower(rule).turned ** index
                    expected = sum((power[0, k] * number for k, number in enumerate(first)), Rest(0, int(kind[5:])))
                    self.tells(expected, far, kind=kind, run=first, rule=rule, index=index)

    def test_the_edges(self):
        rabbits = Poly("ratio", (-1, -1, 1))
        run = gone_on("ratio", (0, 1), rabbits, 200)
        self.tells(run[201], far, kind="ratio", run=(0, 1), rule=rabbits, index=201)
        before, after = 0, 1
        for _ in range(1000):
            before, after = after, before + after
        self.tells(Ratio(before), far, kind="ratio", run=(0, 1), rule=rabbits, index=1000)
        self.tells(Ratio(3 ** 1000, 2 ** 1000), far, kind="ratio", run=(1,), rule=Poly("ratio", (Ratio(-3, 2), 1)), index=1000)
        self.tells(Rest(0, 7), far, kind="rest 7", run=(5,), rule=Poly("rest 7", (0, 1)), index=FAR)
        self.tells(Rest(5, 7), far, kind="rest 7", run=(5,), rule=Poly("rest 7", (0, 1)), index=0)
        forty = Poly("rest 5", (-1,) + (0,) * 39 + (1,))
        self.tells(Rest(FAR % 40 % 5, 5), far, kind="rest 5", run=tuple(range(40)), rule=forty, index=FAR)

    def test_each_number_is_of_the_kind(self):
        self.tells(Ratio(1), far, kind="ratio", run=(1,), rule=Poly("ratio", (-1, 1)), index=5)


class RulesOfRuns(Told):
    def test_sums(self):
        for kind in FIELDS:
            source = lot(f"sums of runs {kind}")
            for one, other in product(list(drawn_rules(kind, source)), repeat=2):
                rule = sum_rule(one, other)
                self.tells(rule, sum_rule, poly=one, other=other)
                runs = [by_rule(poly, [drawn_number(kind, source) for _ in range(poly.degree)], 20) for poly in (one, other)]
                self.same(is_rule(kind, tuple(a + b for a, b in zip(*runs)), rule), True)
                self.same([rule.degree, rule % one, rule % other],
                          [one.degree + other.degree - common(one, other).degree, one - one, one - one])

    def test_products(self):
        for kind in FIELDS:
            source = lot(f"products of runs {kind}")
            for one, other in product(list(drawn_rules(kind, source)), repeat=2):
                if one.degree * other.degree <= 8:
                    rule = product_rule(one, other)
                    self.tells(rule, product_rule, poly=one, other=other)
                    runs = [by_rule(poly, [drawn_number(kind, source) for _ in range(poly.degree)], 20) for poly in (one, other)]
                    self.same(is_rule(kind, tuple(a * b for a, b in zip(*runs)), rule), True)
                    self.same(rule.degree, one.degree * other.degree)

    def test_products_have_the_products_of_roots(self):
        x = Poly("ratio", (0, 1))
        one, other = (x - 2) * (x - 3), (x - 5) * (x + 1)
        self.tells((x - 10) * (x + 2) * (x - 15) * (x + 3), product_rule, poly=one, other=other)
        self.tells((x - 2) ** 4, product_rule, poly=(x - 1) ** 2, other=(x - 2) ** 2)
        self.same(product_rule(x ** 8, x - 1).degree, 8)

    def test_steps(self):
        for kind in FIELDS:
            source = lot(f"steps of runs {kind}")
            for rule in drawn_rules(kind, source, (1, 2, 3, 4)):
                run = by_rule(rule, [drawn_number(kind, source) for _ in range(rule.degree)], 60)
                for step in (1, 2, 3, 5):
                    told = step_rule(rule, step)
                    self.tells(told, step_rule, poly=rule, step=step)
                    self.same([told.degree, is_rule(kind, run[::step][:40], told)], [rule.degree, True])
                self.same(step_rule(rule, 1), rule)
        x = Poly("ratio", (0, 1))
        self.tells((x - 2 ** 64) * (x - 1), step_rule, poly=(x - 2) * (x + 1), step=64)
        self.tells(x ** 8, step_rule, poly=x ** 8, step=64)


class Rounds(Told):
    def test_the_least_by_trying(self):
        for prime, most in ((2, 5), (3, 3), (5, 2), (7, 2)):
            for poly in monic_by(prime, most)[::3 if most == 5 else 1]:
                if poly.coefficients[0]:
                    x = Poly(poly.kind, (0, 1))
                    power, steps = x % poly, 1
                    while power != Poly(poly.kind, (1,)) % poly:
                        power, steps = power * x % poly, steps + 1
                    self.tells(steps, rule_round, poly=poly)

    def test_each_run_comes_again(self):
        for poly in monic_by(3, 3):
            if poly.degree > 0 and poly.coefficients[0]:
                steps = rule_round(poly)
                run = by_rule(poly, (1,) + (0,) * (poly.degree - 1), 2 * steps + 3)
                self.same(run[:len(run) - steps], run[steps:])
                self.same(is_part(poly, Poly("rest 3", (-1,) + (0,) * (steps - 1) + (1,))) if steps < 6 else True, True)

    def test_the_edges(self):
        self.tells(1, rule_round, poly=Poly("rest 2", (1,)))
        self.tells(1, rule_round, poly=Poly("rest 999983", (1,)))
        self.tells(1, rule_round, poly=Poly("rest 999983", (-1, 1)))
        self.tells(2, rule_round, poly=Poly("rest 999983", (1, 1)))
        self.tells(999982, rule_round, poly=Poly("rest 999983", (-5, 1)))
        self.tells(524287, rule_round, poly=Poly("rest 2", (1, 1, 1, 0, 0, 1) + (0,) * 13 + (1,)))
        self.tells(32, rule_round, poly=Poly("rest 2", (1, 1)) ** 19)
        self.tells(8, rule_round, poly=led(Poly("ratio", (-1, -1, 1)), "poly rest 3"))
        for poly in (Poly("rest 997", (5, 3, 1)), Poly("rest 101", (2, 0, 1)), Poly("rest 97", (3, 1, 0, 1))):
            steps = rule_round(poly)
            self.same([is_turning(follower(poly)), follower(poly) ** steps], [True, one_grid(poly.kind, poly.degree)])
            for prime in (2, 3, 5, 7, 11, 13):
                if steps % prime == 0:
                    self.same(follower(poly) ** (steps // prime) == one_grid(poly.kind, poly.degree), False)


class Refusals(Told):
    def test_of_far(self):
        for value in [*SPOILT, *NO_KINDS]:
            self.refuses(InvalidKind(value), far, kind=value, run=None, rule=None, index=None)
        for kind in NO_FIELDS:
            self.refuses(NotAField(kind), far, kind=kind, run=None, rule=None, index=None)
        for value in NO_RUNS:
            self.refuses(InvalidRun(None), far, kind="ratio", run=value, rule=None, index=None)
        self.refuses(InvalidRun(40), far, kind="ratio", run=(1,) * 41, rule=None, index=None)
        for value in NO_POLYS:
            self.refuses(NotAPoly(value), far, kind="ratio", run=(1,), rule=value, index=None)
        self.refuses(Unlike("ratio", "rest 3"), far, kind="ratio", run=(1,), rule=Poly("rest 3", ()), index=None)
        self.refuses(NotMonic(Poly("ratio", ())), far, kind="ratio", run=(1,), rule=Poly("ratio", ()), index=None)
        rule = Poly("ratio", (-1, -1, 1))
        for value in [*SPOILT, -1, 1001, FAR, Ratio(1)]:
            self.refuses(InvalidNumber(value), far, kind="ratio", run=(1,), rule=rule, index=value)
        for value in [*SPOILT, -1, FAR + 1]:
            self.refuses(InvalidNumber(value), far, kind="rest 3", run=(1,), rule=Poly("rest 3", (0, 0, 1)), index=value)
        for run in ((1,), (1, 2, 3)):
            self.refuses(InvalidRun(None), far, kind="ratio", run=run, rule=rule, index=0)
        self.refuses(InvalidRun(None), far, kind="ratio", run=(1,), rule=Poly("ratio", (1,)), index=0)

    def test_of_sums_and_products(self):
        x = Poly("ratio", (0, 1))
        for call in (sum_rule, product_rule):
            for value in NO_POLYS:
                self.refuses(NotAPoly(value), call, poly=value, other=None)
                self.refuses(NotAPoly(value), call, poly=Poly("whole", ()), other=value)
            self.refuses(NotAField("whole"), call, poly=Poly("whole", ()), other=Poly("rest 3", ()))
            self.refuses(NotAField("whole"), call, poly=x * 2, other=Poly("whole", ()))
            self.refuses(Unlike("ratio", "rest 3"), call, poly=x * 2, other=Poly("rest 3", ()))
            for poly in (x * 0, x * 2, Poly("ratio", (3,)), x ** 9 * 2):
                self.refuses(NotMonic(poly), call, poly=poly, other=x * 0)
                self.refuses(NotMonic(poly), call, poly=x ** 9, other=poly)
        one = x ** 0
        self.tells(one, sum_rule, poly=one, other=one)
        self.tells(x ** 9, sum_rule, poly=one, other=x ** 9)
        for poly, other in ((one, one), (one, x ** 9), (x, one)):
            self.refuses(TooMany(0), product_rule, poly=poly, other=other)
        for poly, other in ((x ** 9, x), (x ** 3, x ** 3), (x, x ** 64), (x ** 12, x ** 2), (x ** 3, x ** 10)):
            self.refuses(TooMany(poly.degree * other.degree), product_rule, poly=poly, other=other)

    def test_of_steps(self):
        x = Poly("ratio", (0, 1))
        for value in NO_POLYS:
            self.refuses(NotAPoly(value), step_rule, poly=value, step=None)
        for value in [*SPOILT, 0, -1, 65, Ratio(1)]:
            if value != 1:
                self.refuses(InvalidNumber(value), step_rule, poly=Poly("whole", ()), step=value)
        self.refuses(InvalidNumber(True), step_rule, poly=Poly("whole", ()), step=True)
        self.refuses(NotAField("whole"), step_rule, poly=Poly("whole", ()), step=1)
        for poly in (x * 0, x ** 0, x * 2, x ** 9 * 2, Poly("ratio", (2,))):
            self.refuses(NotMonic(poly), step_rule, poly=poly, step=1)
        self.refuses(TooMany(9), step_rule, poly=x ** 9, step=64)

    def test_of_rounds(self):
        for value in NO_POLYS:
            self.refuses(NotAPoly(value), rule_round, poly=value)
        for kind in ("whole", "ratio"):
            self.refuses(NotRests(kind), rule_round, poly=Poly(kind, ()))
        x = Poly("rest 3", (0, 1))
        for poly in (x * 0, x * 2, Poly("rest 3", (2,)), x ** 20 * 2):
            self.refuses(NotMonic(poly), rule_round, poly=poly)
        for poly in (x, x ** 20, x * (x + 1)):
            self.refuses(NoRound(), rule_round, poly=poly)
        self.refuses(TooMany(3 ** 13), rule_round, poly=x ** 13 + 1)
        self.refuses(TooMany(1009 ** 2), rule_round, poly=Poly("rest 1009", (1, 0, 1)))
        self.refuses(TooMany(2 ** 20), rule_round, poly=Poly("rest 2", (1, 1)) ** 20)
        self.same(rule_round(number_in("rest 3", 1) * x ** 12 + 1) > 1, True)
