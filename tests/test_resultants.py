from itertools import product

from drawn import FIELDS, drawn_number, lot, plain_det
from gridwright.dets import det
from gridwright.dividing import are_clear
from gridwright.errors import NotAPoly, NotMonic, NotOrdered, Nought, TooMany, Unlike
from gridwright.grids import Grid
from gridwright.kinds import nought, number_of, one
from gridwright.leading import led
from gridwright.polys import Poly
from gridwright.ratios import Ratio
from gridwright.resultants import gap, resultant, table_of
from gridwright.rests import Rest
from samples import polys_by, total_product
from support import Told
from test_dividing import NO_POLYS

KINDS = ("whole", *FIELDS)


def drawn_poly(kind, degree, source):
    """A poly of just this degree."""
    while True:
        poly = Poly(kind, tuple(drawn_number(kind, source) for _ in range(degree + 1)))
        if poly.degree == degree:
            return poly


def plain_table(poly, other):
    """The rows of the table by the words of the document."""
    size = poly.degree + other.degree
    rows = []
    for one_poly, many in ((poly, other.degree), (other, poly.degree)):
        for shift in range(many):
            row = [nought(poly.kind)] * size
            for k, number in enumerate(reversed(one_poly.coefficients)):
                row[shift + k] = number
            rows.append(tuple(row))
    return tuple(rows)


def pairs(kind, name, most=8):
    source = lot(name)
    for degree, other in product(range(5), range(5)):
        if degree + other <= most:
            yield drawn_poly(kind, degree, source), drawn_poly(kind, other, source)


class Tables(Told):
    def test_rows_by_the_words_of_the_document(self):
        for kind in KINDS:
            for poly, other in pairs(kind, "tables"):
                if poly.degree + other.degree > 0:
                    self.tells(Grid(plain_table(poly, other)), table_of, poly=poly, other=other)
                else:
                    self.refuses(Nought(), table_of, poly=poly, other=other)

    def test_the_greatest_ones(self):
        source = lot("greatest tables")
        for kind in KINDS:
            for degree in range(9):
                poly, other = drawn_poly(kind, degree, source), drawn_poly(kind, 8 - degree, source)
                self.tells(Grid(plain_table(poly, other)), table_of, poly=poly, other=other)
                self.same(det(table_of(poly, other)), resultant(poly, other))
                beyond = drawn_poly(kind, 9 - degree, source)
                self.refuses(TooMany(9), table_of, poly=poly, other=beyond)


class Resultants(Told):
    def test_the_determinant_of_the_table(self):
        for kind in KINDS:
            for poly, other in pairs(kind, "determinants", 6):
                self.tells(plain_det(kind, plain_table(poly, other)), resultant, poly=poly, other=other)

    def test_of_numbers_it_is_one(self):
        for kind in KINDS:
            self.tells(one(kind), resultant, poly=Poly(kind, (-1,)), other=Poly(kind, (1,)))
        self.tells(1, resultant, poly=Poly("whole", (7,)), other=Poly("whole", (-3,)))

    def test_nought_exactly_if_not_clear(self):
        for prime, size in ((2, 4), (3, 3)):
            for poly, other in product(polys_by(prime, size), repeat=2):
                if poly and other:
                    self.same(not resultant(poly, other), not are_clear(poly, other))
        shared = Poly("ratio", (Ratio(1, 3), 1))
        source = lot("not clear")
        for _ in range(10):
            poly, other = drawn_poly("ratio", 3, source), drawn_poly("ratio", 4, source)
            self.same(resultant(poly * shared, other * shared), Ratio(0))

    def test_exchanged(self):
        for kind in KINDS:
            for poly, other in pairs(kind, "exchanged"):
                sign = -1 if poly.degree * other.degree % 2 == 1 else 1
                self.same(resultant(other, poly), resultant(poly, other) * sign)

    def test_of_a_product(self):
        source = lot("products")
        for kind in KINDS:
            for poly, other in pairs(kind, "of products"):
                third = drawn_poly(kind, source.choice((0, 1, 3)), source)
                self.same(resultant(poly, other * third), resultant(poly, other) * resultant(poly, third))
                self.same(resultant(poly * third, other), resultant(poly, other) * resultant(third, other))

    def test_by_the_roots(self):
        source = lot("by roots")
        for kind in KINDS:
            for degree, many in product((1, 2, 5), (0, 1, 4)):
                roots, lead = [drawn_number(kind, source) for _ in range(degree)], drawn_poly(kind, 0, source)
                poly = total_product([Poly(kind, (-root, 1)) for root in roots], kind) * lead
                other = drawn_poly(kind, many, source)
                expected = one(kind)
                for _ in range(many):
                    expected = expected * lead.lead
                for root in roots:
                    expected = expected * other.at(root)
                self.same(resultant(poly, other), expected)

    def test_high_degrees_and_great_numbers(self):
        far = 10 ** 30 + 57
        poly = Poly("whole", (1,) + (0,) * 39 + (far,))
        self.same(resultant(poly, Poly("whole", (-2, 1))), far * 2 ** 40 + 1)
        self.same(resultant(Poly("whole", (-far, 1)), poly), poly.at(far))
        source = lot("high degrees")
        one_poly, other, third = [drawn_poly("whole", degree, source) for degree in (14, 11, 9)]
        self.same(resultant(one_poly, other * third), resultant(one_poly, other) * resultant(one_poly, third))

    def test_led_by_a_prime(self):
        # Where the leads do not vanish, the determinant of the table led is the one led.
        source = lot("led resultants")
        for _ in range(10):
            poly, other = drawn_poly("whole", 4, source), drawn_poly("whole", 3, source)
            if poly.lead % 97 and other.lead % 97:
                by_prime = [led(one_poly, "poly rest 97") for one_poly in (poly, other)]
                self.same(resultant(*by_prime), number_of("rest 97", resultant(poly, other)))


class Gaps(Told):
    def test_by_the_words_of_the_document(self):
        source = lot("gaps")
        for kind, degree in product(("whole", "ratio"), (1, 2, 3, 4)):
            for _ in range(4):
                poly = drawn_poly(kind, degree, source)
                sign = -1 if degree * (degree - 1) // 2 % 2 == 1 else 1
                found = gap(poly)
                self.tells(found, gap, poly=poly)
                self.same(found * poly.lead * sign, plain_det(kind, plain_table(poly, poly.slope())))

    def test_known_ones(self):
        source = lot("known gaps")
        for _ in range(10):
            a, b, c = [drawn_number("whole", source) or 1 for _ in range(3)]
            self.tells(b * b - 4 * a * c, gap, poly=Poly("whole", (c, b, a)))
            self.tells(Ratio(b * b - 4 * a * c, 49), gap, poly=Poly("ratio", (Ratio(c, 7), Ratio(b, 7), Ratio(a, 7))))
            self.tells(-4 * b ** 3 - 27 * c * c, gap, poly=Poly("whole", (c, b, 0, 1)))
            self.tells(1, gap, poly=Poly("whole", (b, a)))
            self.tells(Ratio(1), gap, poly=Poly("ratio", (b, Ratio(a, 3))))

    def test_nought_exactly_if_a_square_is_a_part(self):
        source = lot("squares")
        for kind in ("whole", "ratio"):
            for degree in (1, 2):
                square = drawn_poly(kind, degree, source)
                self.same(gap(square * square), nought(kind))
                self.same(gap(square * square * drawn_poly(kind, 3, source)), nought(kind))
        singles = [Poly("whole", numbers) for numbers in ((0, 1), (-3, 1), (1, 2), (1, 0, 1), (-2, 0, 1), (5, 1, 3))]
        for many in range(1, 64):
            chosen = [single for k, single in enumerate(singles) if many >> k & 1]
            self.same(gap(total_product(chosen, "whole")) != 0, True)

    def test_a_poly_of_high_degree(self):
        # Of x ** n - 1 it is known.
        for degree in (9, 16, 20):
            sign = -1 if (degree * (degree - 1) // 2 + degree + 1) % 2 == 1 else 1
            self.same(gap(Poly("whole", (-1,) + (0,) * (degree - 1) + (1,))), sign * degree ** degree)


class Refusals(Told):
    def test_in_their_order(self):
        for call in (table_of, resultant):
            self.refuses(Unlike("whole", "ratio"), call, poly=Poly("whole", ()), other=Poly("ratio", ()))
            for value in NO_POLYS:
                self.refuses(NotAPoly(value), call, poly=value, other=None)
                self.refuses(NotAPoly(value), call, poly=Poly("whole", ()), other=value)
            for kind in KINDS:
                self.refuses(Nought(), call, poly=Poly(kind, ()), other=Poly(kind, (1, 1)))
                self.refuses(Nought(), call, poly=Poly(kind, (1, 1)), other=Poly(kind, ()))
        self.refuses(NotOrdered("rest 2"), gap, poly=Poly("rest 2", ()))
        self.refuses(NotOrdered("rest 5"), gap, poly=Poly("rest 5", (Rest(1, 5), 1)))
        for kind in ("whole", "ratio"):
            self.refuses(Nought(), gap, poly=Poly(kind, ()))
            self.refuses(NotMonic(Poly(kind, (3,))), gap, poly=Poly(kind, (3,)))
