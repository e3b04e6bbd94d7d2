from itertools import product

from gridwright.dividing import common, least_multiple
from gridwright.errors import (
    InvalidBottoms, InvalidKind, InvalidPoints, NotAField, NotAPoly, Nought, TooGreat, Unlike,
)
from gridwright.meeting import disagreement, mixed, shares, through
from gridwright.polys import Poly
from gridwright.ratios import Ratio
from gridwright.rests import Rest
from samples import NO_KINDS, polys_by, total_product
from support import SPOILT, Told

NO_POLYS = [*SPOILT, 1, Ratio(1), Rest(1, 5), "poly whole: (1)"]
NO_TUPLES = [value for value in SPOILT if not isinstance(value, tuple)] + [1, Ratio(1), Poly("ratio", (1,))]
WHOLE, RATIO, REST2, REST3 = [Poly(kind, (1, 1)) for kind in ("whole", "ratio", "rest 2", "rest 3")]


def ratios(*numbers):
    return Poly("ratio", numbers)


class Through(Told):
    def test_by_rests_it_is_the_only_one_of_its_degree(self):
        for firsts in ((0,), (2, 0), (1, 2), (0, 1, 2), (2, 1, 0)):
            polys = polys_by(3, len(firsts))
            for seconds in product(range(3), repeat=len(firsts)):
                fits = [poly for poly in polys if all(poly.at(x) == Rest(y, 3) for x, y in zip(firsts, seconds))]
                self.same(len(fits), 1)
                self.tells(fits[0], through, kind="rest 3", points=tuple(zip(firsts, seconds)))

    def test_over_ratios(self):
        firsts = (0, 1, Ratio(-1, 2), 7, Ratio(2), 10 ** 30)
        for size in range(1, 7):
            points = tuple((x, Ratio(k * k - 3, k + 2)) for k, x in enumerate(firsts[:size]))
            poly = through("ratio", points)
            self.assertLess(poly.degree, size)
            for x, y in points:
                self.same(poly.at(x), y)
        self.tells(ratios(1, 0, 1), through, kind="ratio", points=((0, 1), (1, 2), (2, 5)))
        self.tells(ratios(), through, kind="ratio", points=((0, 0), (1, 0)))

    def test_as_many_points_as_may_be(self):
        points = tuple((k, k ** 3) for k in range(24))
        self.tells(ratios(0, 0, 0, 1), through, kind="ratio", points=points)
        self.refuses(InvalidPoints(24), through, kind="ratio", points=(*points, (24, 1)))
        self.refuses(InvalidPoints(24), through, kind="ratio", points=(*points, (24, 1), None))
        self.refuses(InvalidPoints(3), through, kind="ratio", points=(*points[:3], (0, 1), *points[3:]))

    def test_kinds_come_first(self):
        for kind in [*NO_KINDS, *SPOILT, 1]:
            self.refuses(InvalidKind(kind), through, kind=kind, points=None)
        for kind in ("whole", "rest 4", "rest 1000000", "poly whole", "poly ratio", "poly rest 3"):
            self.refuses(NotAField(kind), through, kind=kind, points=None)
            self.refuses(NotAField(kind), through, kind=kind, points=((0, 1),))

    def test_the_first_point_that_is_wrong(self):
        for value in [*NO_TUPLES, ()]:
            self.refuses(InvalidPoints(None), through, kind="ratio", points=value)
        for value in [*SPOILT, 1, (1, 2, 3), (1,), [1, 2], (True, 1), (1, False), (1, None), (Rest(1, 3), 1),
                      (1, Poly("ratio", (1,))), (1, Rest(1, 3)), ("1", 1)]:
            self.refuses(InvalidPoints(0), through, kind="ratio", points=(value,))
            self.refuses(InvalidPoints(2), through, kind="ratio", points=((5, 1), (6, 1), value, value, (5, 1)))
        self.refuses(InvalidPoints(1), through, kind="ratio", points=((1, 1), (Ratio(2, 2), 5)))
        self.refuses(InvalidPoints(1), through, kind="ratio", points=((1, 1), (1, 1)))
        self.refuses(InvalidPoints(2), through, kind="rest 5", points=((1, 1), (2, 1), (6, 1), None))
        self.refuses(InvalidPoints(1), through, kind="rest 5", points=((Rest(1, 5), 1), (-4, 1)))
        self.refuses(InvalidPoints(0), through, kind="rest 5", points=((Ratio(1), 1),))
        self.refuses(InvalidPoints(0), through, kind="rest 5", points=((1, Rest(1, 7)),))


class Mixed(Told):
    def test_by_trying_all_polys(self):
        for prime, size in ((2, 3), (3, 2)):
            polys = polys_by(prime, size)
            for one, other in product(polys, polys):
                if one and other:
                    least = least_multiple(one, other)
                    self.check(one, other, polys, [poly for poly in polys_by(prime, 4) if poly.degree < least.degree])

    def check(self, one, other, polys, tried):
        for left, right in product(polys[::2], polys[1::3]):
            fits = [poly for poly in tried if not (poly - left) % one and not (poly - right) % other]
            rest = (left - right) % common(one, other)
            self.same(len(fits), 0 if rest else 1)
            self.tells(fits[0] if fits else None, mixed, poly=one, left=left, other=other, right=right)
            self.tells(rest if rest else None, disagreement, poly=one, left=left, other=other, right=right)

    def test_over_ratios(self):
        one, other = ratios(-1, 0, 1), ratios(1, 2, 1)
        left, right = ratios(5, Ratio(1, 3), 0, 7), ratios(1, Ratio(1, 3) - 4, 0, 7)
        poly = mixed(one, left, other, right)
        self.same([(poly - left) % one, (poly - right) % other], [ratios()] * 2)
        self.assertLess(poly.degree, 3)
        self.same(disagreement(one, left, other, right), None)
        self.tells(None, mixed, poly=one, left=left, other=other, right=right + 1)
        self.tells(ratios(-1), disagreement, poly=one, left=left, other=other, right=right + 1)

    def test_numbers_leave_nothing(self):
        self.tells(ratios(), mixed, poly=ratios(3), left=ratios(1, 2), other=ratios(5), right=ratios(7))
        self.tells(ratios(7), mixed, poly=ratios(3), left=ratios(1, 2), other=ratios(0, 1), right=ratios(7))
        self.tells(None, disagreement, poly=ratios(3), left=ratios(1, 2), other=ratios(5), right=ratios(7))

    def test_errors_in_their_order(self):
        nought = ratios()
        for call in (mixed, disagreement):
            for value in NO_POLYS:
                self.refuses(NotAPoly(value), call, poly=value, left=None, other=None, right=None)
                self.refuses(NotAPoly(value), call, poly=WHOLE, left=value, other=None, right=None)
                self.refuses(NotAPoly(value), call, poly=WHOLE, left=RATIO, other=value, right=None)
                self.refuses(NotAPoly(value), call, poly=nought, left=RATIO, other=REST2, right=value)
            for place in ("poly", "left", "other", "right"):
                told = {"poly": nought, "left": REST2, "other": nought, "right": REST3, place: WHOLE}
                self.refuses(NotAField("whole"), call, **told)
            self.refuses(Unlike("ratio", "rest 2"), call, poly=nought, left=REST2, other=nought, right=REST3)
            self.refuses(Unlike("ratio", "rest 3"), call, poly=nought, left=RATIO, other=REST3, right=REST2)
            self.refuses(Unlike("ratio", "rest 3"), call, poly=nought, left=RATIO, other=nought, right=REST3)
            self.refuses(Nought(), call, poly=nought, left=RATIO, other=RATIO, right=RATIO)
            self.refuses(Nought(), call, poly=RATIO, left=RATIO, other=nought, right=RATIO)
        self.tells(nought, mixed, poly=RATIO, left=nought, other=RATIO, right=nought)


class Shares(Told):
    def check(self, poly, bottoms):
        found = shares(poly, bottoms)
        self.tells(found, shares, poly=poly, bottoms=bottoms)
        self.same(len(found), len(bottoms))
        total = Poly(poly.kind, ())
        for place, share in enumerate(found):
            self.assertLess(share.degree, bottoms[place].degree)
            total = total + share * total_product(bottoms[:place] + bottoms[place + 1:], poly.kind)
        self.same(total, poly)

    def test_all_polys_by_rests(self):
        two = [Poly("rest 2", numbers) for numbers in ((0, 1), (1, 1), (1, 1, 1))]
        three = [Poly("rest 3", numbers) for numbers in ((0, 2), (1, 1), (2, 1))]
        for bottoms, prime in ((two, 2), (three, 3), ([two[2] ** 2], 2), ([two[0] ** 2, two[1] ** 2], 2)):
            for poly in polys_by(prime, sum(bottom.degree for bottom in bottoms)):
                self.check(poly, tuple(bottoms))

    def test_over_ratios(self):
        bottoms = (ratios(0, 1), ratios(-1, 1), ratios(1, 0, Ratio(2, 3)), ratios(4, 4, 1))
        for poly in (ratios(), ratios(1), ratios(1, 2, 3, 4, 5, Ratio(1, 6))):
            for size in (1, 2, 3, 4):
                if poly.degree < sum(bottom.degree for bottom in bottoms[:size]):
                    self.check(poly, bottoms[:size])
        self.tells((ratios(-1), ratios(1)), shares, poly=ratios(1), bottoms=bottoms[:2])

    def test_as_many_bottoms_as_may_be(self):
        bottoms = tuple(ratios(k, 1) for k in range(9))
        self.check(ratios(1, 0, 0, 5), bottoms[:8])
        self.refuses(InvalidBottoms(8), shares, poly=ratios(1), bottoms=bottoms)
        self.refuses(InvalidBottoms(8), shares, poly=ratios(1), bottoms=(*bottoms, None))
        self.refuses(InvalidBottoms(5), shares, poly=ratios(1), bottoms=(*bottoms[:5], bottoms[0], *bottoms[6:]))

    def test_what_comes_ahead_of_the_bottoms(self):
        for value in NO_POLYS:
            self.refuses(NotAPoly(value), shares, poly=value, bottoms=None)
        self.refuses(NotAField("whole"), shares, poly=WHOLE, bottoms=None)
        self.refuses(NotAField("whole"), shares, poly=Poly("whole", ()), bottoms=(WHOLE,))

    def test_the_first_bottom_that_is_wrong(self):
        for value in [*NO_TUPLES, ()]:
            self.refuses(InvalidBottoms(None), shares, poly=RATIO, bottoms=value)
        good = (ratios(0, 1), ratios(5, 1))
        for value in [*NO_POLYS, WHOLE, REST2, ratios(), ratios(3), ratios(0, 2), ratios(0, 5, 1), good[1]]:
            self.refuses(InvalidBottoms(2), shares, poly=RATIO, bottoms=(*good, value, value, ratios(7, 1)))
            self.refuses(InvalidBottoms(2), shares, poly=ratios(0, 0, 0, 0, 0, 0, 1), bottoms=(*good, value))
        for value in [*NO_POLYS, WHOLE, REST2, ratios(), ratios(3)]:
            self.refuses(InvalidBottoms(0), shares, poly=RATIO, bottoms=(value,))

    def test_degrees_that_are_too_great(self):
        self.refuses(TooGreat(1), shares, poly=RATIO, bottoms=(ratios(0, 1),))
        self.refuses(TooGreat(3), shares, poly=ratios(0, 0, 0, 1), bottoms=(ratios(0, 1), ratios(1, 0, 1)))
        self.refuses(TooGreat(7), shares, poly=ratios(*[1] * 8), bottoms=(ratios(0, 1), ratios(1, 0, 1)))


class GivenPolysStay(Told):
    def test_all_functions(self):
        one, other = ratios(1, 2), ratios(0, Ratio(1, 2))
        mixed(one, other, other, one), disagreement(one, one, other, other), shares(ratios(1), (one, other))
        self.same([one.text, other.text], ["poly ratio: (1/1,2/1)", "poly ratio: (0/1,1/2)"])
