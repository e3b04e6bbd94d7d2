from itertools import product

from drawn import lot
from gridwright.dividing import bare
from gridwright.errors import InvalidNumber, NoSuchRoot, NotAPoly, NotMonic, NotOrdered, Nought, TooMany
from gridwright.polys import Poly
from gridwright.ratios import Ratio
from gridwright.rests import Rest
from gridwright.stretches import count_real, narrowed, ratio_roots, signs_row, stretches
from samples import total_product
from support import SPOILT, Told
from test_dividing import NO_POLYS

NO_ENDS = [*SPOILT[1:], (0, 1), Rest(1, 3), Poly("ratio", (1,))]
NO_REAL = [Poly("ratio", numbers) for numbers in ((1,), (1, 0, 1), (3, 1, 1), (2, 0, 3, 0, 1))]
FAR = Ratio(10 ** 30 + 57, 10 ** 30)


def ratios(*numbers):
    return Poly("ratio", numbers)


def with_roots(roots, more=None):
    """A poly with told roots, and with what has no real roots besides."""
    return total_product([ratios(-root, 1) for root in roots], "ratio") * (more if more else 1)


def value(number):
    return number if isinstance(number, Ratio) else Ratio(number)


def above(number, other):
    return value(other).is_below(number)


def within(root, low, high):
    return (low is None or above(root, low)) and (high is None or not above(root, high))


def ascending(roots):
    found = []
    for root in roots:
        at = len([other for other in found if other.is_below(root)])
        found.insert(at, root)
    return found


def drawn_roots(source, many):
    """Some ratios, some of them more than once."""
    return [Ratio(source.randint(-6, 6), source.choice((1, 1, 2, 3, 7))) for _ in range(many)]


class RatioRoots(Told):
    def test_all_of_them_as_often_as_they_are(self):
        source = lot("ratio roots")
        for many in (0, 1, 2, 3, 5):
            for more in (None, *NO_REAL, ratios(-2, 0, 1), ratios(-2, 0, 0, 1)):
                roots = drawn_roots(source, many)
                poly = with_roots(roots, more) * Ratio(source.choice((-5, 1, 3)), source.choice((1, 11)))
                unlike = ascending([root for k, root in enumerate(roots) if root not in roots[:k]])
                expected = tuple((root, roots.count(root)) for root in unlike)
                self.tells(expected, ratio_roots, poly=poly)

    def test_the_edges(self):
        self.tells((), ratio_roots, poly=ratios(7))
        self.tells(((Ratio(0), 1),), ratio_roots, poly=ratios(0, 7))
        self.tells(((Ratio(0), 9),), ratio_roots, poly=ratios(*(0,) * 9, Ratio(1, 3)))
        self.tells(((Ratio(-1), 3), (Ratio(0), 2), (Ratio(1), 4)), ratio_roots,
                   poly=ratios(1, 1) ** 3 * ratios(0, 1) ** 2 * ratios(-1, 1) ** 4)
        self.tells(((Ratio(2, 3), 1),), ratio_roots, poly=ratios(Ratio(-2, 3), 1))
        self.tells((), ratio_roots, poly=ratios(1, 1, 1))

    def test_the_bounds(self):
        most = 10 ** 6
        self.tells(((Ratio(most), 1),), ratio_roots, poly=ratios(-most, 1))
        self.tells(((Ratio(-1, most), 1),), ratio_roots, poly=ratios(1, most))
        self.tells(((Ratio(-most, most - 1), 1),), ratio_roots, poly=ratios(most, most - 1))
        self.refuses(TooMany(most + 1), ratio_roots, poly=ratios(-most - 1, 1))
        self.refuses(TooMany(most + 1), ratio_roots, poly=ratios(1, 0, -most - 1))
        self.refuses(TooMany(most + 1), ratio_roots, poly=ratios(0, 0, Ratio(most + 1, 7), Ratio(1, 7)))
        # The first coefficient that is not nought comes ahead of the lead.
        self.refuses(TooMany(most + 2), ratio_roots, poly=ratios(0, most + 2, 0, most + 3))
        self.refuses(TooMany(most + 3), ratio_roots, poly=ratios(0, 1, most + 2, most + 3))
        # What stands between them may be of any size, and all of them have a common divisor.
        self.tells(((Ratio(-1), 1),), ratio_roots, poly=ratios(10 ** 40, 10 ** 40))
        self.tells(((Ratio(-1), 1),), ratio_roots, poly=ratios(1, 10 ** 30, 10 ** 30, 1))

    def test_with_many_divisors(self):
        poly = ratios(-720720, 720719) * ratios(720720, 1) * ratios(1, 1)
        self.refuses(TooMany(720720 ** 2), ratio_roots, poly=poly)
        self.tells(((Ratio(-720720), 1), (Ratio(1, 720720), 1)), ratio_roots, poly=ratios(720720, 1) * ratios(-1, 720720))
        self.tells((), ratio_roots, poly=ratios(720720, 1, 0, 1, 720720))


class SignsRows(Told):
    def test_by_the_words_of_the_document(self):
        source = lot("signs' rows")
        for _ in range(30):
            poly = with_roots(drawn_roots(source, source.randint(0, 4)), source.choice(NO_REAL)) * Ratio(-3, 2)
            if poly.degree == 0:
                continue
            row = signs_row(poly)
            self.tells(row, signs_row, poly=poly)
            self.same([row[0], row[1]], [bare(poly), bare(poly).slope()])
            for k in range(2, len(row)):
                self.same(row[k], -(row[k - 2] % row[k - 1]))
                self.assertTrue(row[k])
            self.same(row[-2] % row[-1], ratios())

    def test_the_edges(self):
        self.tells((ratios(-2, 0, 1), ratios(0, 2), ratios(2)), signs_row, poly=ratios(-2, 0, 1))
        self.tells((ratios(3, 1), ratios(1)), signs_row, poly=ratios(6, 2) ** 4)
        for number in (1, -5, Ratio(1, 3)):
            self.refuses(NotMonic(ratios(number)), signs_row, poly=ratios(number))


class Counted(Told):
    def test_unlike_real_roots_between_ends(self):
        source = lot("counted roots")
        for _ in range(25):
            roots = drawn_roots(source, source.randint(0, 5))
            poly = with_roots(roots, source.choice(NO_REAL)) * source.choice((1, -2))
            unlike = [root for k, root in enumerate(roots) if root not in roots[:k]]
            # Ends that are roots are among them, and all in between.
            ends = [None, -7, Ratio(-13, 2), 0, Ratio(1, 14), 3, *unlike[:3]]
            for low, high in product(ends, ends):
                if low is not None and high is not None and above(low, high):
                    self.refuses(InvalidNumber(low), count_real, poly=poly, low=low, high=high)
                else:
                    expected = len([root for root in unlike if within(root, low, high)])
                    self.tells(expected, count_real, poly=poly, low=low, high=high)

    def test_roots_that_are_no_ratios(self):
        square = ratios(-2, 0, 1)
        for low, high, expected in ((0, 2, 1), (None, None, 2), (Ratio(7, 5), Ratio(3, 2), 1), (Ratio(3, 2), None, 0),
                                    (None, 0, 1), (-1, 1, 0), (1, 1, 0), (Ratio(141421356, 10 ** 8), Ratio(141421357, 10 ** 8), 1)):
            for poly in (square, square ** 3, square * ratios(1, 0, 1), square * -5):
                self.tells(expected, count_real, poly=poly, low=low, high=high)

    def test_of_numbers_there_are_none(self):
        for number, low, high in product((1, -3, Ratio(1, 2)), (None, -1), (None, 5)):
            self.tells(0, count_real, poly=ratios(number), low=low, high=high)

    def test_all_real_roots_lie_within_the_bound(self):
        source = lot("bounds")
        for _ in range(30):
            poly = ratios(*[Ratio(source.randint(-9, 9), source.randint(1, 4)) for _ in range(6)], source.choice((-2, 1, 3)))
            sizes = [abs(number) * poly.lead.inverse() for number in poly.coefficients[:-1]]
            bound = ascending([abs(size) for size in sizes])[-1] + 1
            self.same(count_real(poly, -bound, bound), count_real(poly, None, None))

    def test_great_numbers(self):
        poly = with_roots([FAR, FAR + 1, -FAR])
        self.tells(3, count_real, poly=poly, low=None, high=None)
        self.tells(1, count_real, poly=poly, low=1, high=FAR)
        self.tells(0, count_real, poly=poly, low=FAR, high=2)
        self.tells(1, count_real, poly=poly * 10 ** 59, low=FAR, high=10 ** 59)


class Stretches(Told):
    def holds(self, poly, expected):
        """That pairs are told as the document says, and as many as there are unlike real roots."""
        for found in (stretches(poly), stretches(poly=poly)):
            self.assertIs(type(found), tuple)
            self.same(len(found), expected)
            for low, high in found:
                self.same([type(low), type(high), low.is_below(high)], [Ratio, Ratio, True])
                self.same(count_real(poly, low, high), 1)
            for (_, high), (low, _) in zip(found, found[1:]):
                self.same(low.is_below(high), False)
            self.same(count_real(poly, None, None), expected)

    def test_each_with_just_one_root(self):
        source = lot("stretches")
        for _ in range(40):
            roots = drawn_roots(source, source.randint(0, 7))
            poly = with_roots(roots, source.choice(NO_REAL)) * source.choice((1, -3))
            self.holds(poly, len([root for k, root in enumerate(roots) if root not in roots[:k]]))

    def test_the_edges(self):
        self.tells((), stretches, poly=ratios(5))
        self.tells((), stretches, poly=ratios(1, 0, 1))
        self.holds(ratios(0, 1), 1)
        self.holds(ratios(-2, 0, 1), 2)
        self.holds(ratios(0, 1) ** 9, 1)
        self.holds(with_roots([Ratio(k) for k in range(1, 15)]), 14)

    def test_roots_near_one_another(self):
        near = [FAR, FAR + Ratio(1, 10 ** 40), FAR - Ratio(1, 10 ** 40), Ratio(1)]
        self.holds(with_roots(near), 4)
        # The two roots of this one near 1 / 100 are much nearer to each other than that (Mignotte).
        self.holds(ratios(-2, 400, -20000, 0, 0, 0, 0, 0, 0, 0, 0, 1), 3)


class Narrowed(Told):
    def holds(self, poly, low, high, width):
        for found in (narrowed(poly, low, high, width), narrowed(poly=poly, low=low, high=high, width=width)):
            self.same([type(found), type(found[0]), type(found[1])], [tuple, Ratio, Ratio])
            first, second = found
            self.same(value(width).is_below(second - first), False)
            self.same(count_real(poly, first, second), 1)
            self.same([low is not None and first.is_below(low), high is not None and value(high).is_below(second)], [False] * 2)

    def test_within_what_is_given(self):
        square = ratios(-2, 0, 1)
        for width in (1, 7, Ratio(1, 3), Ratio(1, 10 ** 6), Ratio(1, 10 ** 59), 10 ** 59):
            for low, high in ((0, 2), (None, 0), (0, None), (Ratio(14, 10), Ratio(15, 10)), (1, 100), (Ratio(1), 10 ** 59)):
                for poly in (square, square ** 2 * ratios(1, 0, 1), -square):
                    self.holds(poly, low, high, width)

    def test_roots_at_the_ends(self):
        poly = with_roots([Ratio(1), Ratio(2), Ratio(5, 2)])
        for low, high in ((1, 2), (0, 1), (2, Ratio(5, 2)), (None, 1), (2, None), (Ratio(9, 4), None), (1, Ratio(12, 5))):
            for width in (1, Ratio(1, 1000)):
                self.holds(poly, low, high, width)

    def test_without_just_one_root(self):
        poly = with_roots([Ratio(1), Ratio(2), Ratio(5, 2)])
        for low, high in ((None, None), (0, 2), (1, 1), (2, 2), (None, 0), (3, None), (1, Ratio(5, 2)), (Ratio(5, 2), 3)):
            self.refuses(NoSuchRoot(), narrowed, poly=poly, low=low, high=high, width=1)
        self.refuses(NoSuchRoot(), narrowed, poly=ratios(4), low=None, high=None, width=1)

    def test_stretches_narrowed(self):
        poly = with_roots([Ratio(k, 7) for k in range(-3, 4)], ratios(-3, 0, 1))
        for low, high in stretches(poly):
            self.holds(poly, low, high, Ratio(1, 10 ** 20))


class Refusals(Told):
    def test_in_their_order(self):
        good = {count_real: {"low": 0, "high": 1}, narrowed: {"low": 0, "high": 1, "width": 1}}
        for call in (ratio_roots, signs_row, stretches, count_real, narrowed):
            more = good.get(call, {})
            for wrong in NO_POLYS:
                self.refuses(NotAPoly(wrong), call, poly=wrong, **more)
            for kind in ("whole", "rest 2", "rest 97"):
                self.refuses(NotOrdered(kind), call, poly=Poly(kind, ()), **more)
                self.refuses(NotOrdered(kind), call, poly=Poly(kind, (1,)), **more)
            self.refuses(Nought(), call, poly=ratios(), **more)
        for wrong in NO_ENDS:
            for poly in (ratios(-1, 1), ratios(), Poly("whole", ())):
                self.refuses(InvalidNumber(wrong), count_real, poly=poly, low=wrong, high=object())
                self.refuses(InvalidNumber(wrong), count_real, poly=poly, low=2, high=wrong)
                self.refuses(InvalidNumber(wrong), narrowed, poly=poly, low=wrong, high=object(), width=0)
                self.refuses(InvalidNumber(wrong), narrowed, poly=poly, low=None, high=wrong, width=0)
        for wrong in [*SPOILT, 0, -1, Ratio(0), Ratio(-1, 9), Rest(1, 3), (1,)]:
            for poly in (ratios(-1, 1), ratios(), Poly("whole", ())):
                self.refuses(InvalidNumber(wrong), narrowed, poly=poly, low=2, high=1, width=wrong)
        self.refuses(InvalidNumber(2), narrowed, poly=ratios(-1, 1), low=2, high=1, width=1)
        self.refuses(InvalidNumber(Ratio(3, 2)), count_real, poly=ratios(1), low=Ratio(3, 2), high=Ratio(4, 3))
