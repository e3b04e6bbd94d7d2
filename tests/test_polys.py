from itertools import product

from gridwright.errors import (
    InvalidCoefficients, InvalidKind, InvalidNumber, InvalidText, NotAField, NotAPoly, NotAUnit, Nought, Unlike,
)
from gridwright.polys import Poly
from gridwright.ratios import Ratio
from gridwright.rests import Rest
from samples import COEFFICIENT_KINDS, NO_KINDS, OTHER_KINDS, naive, naive_product, numbers_of, polys_by
from samples import ratio_polys, whole_polys
from support import SPOILT, Told

NO_NUMBERS = [value for value in SPOILT] + [Rest(1, 6), Poly("whole", (1,)), [2]]
NO_POLYS = [*SPOILT, 1, Ratio(1), Rest(1, 5), ("whole", (1,)), "poly whole: (1)"]
LISTS = (whole_polys(), ratio_polys(), polys_by(2, 3), polys_by(3, 3))
NOUGHTS = [Poly(kind, ()) for kind in COEFFICIENT_KINDS]


class MakingPolys(Told):
    def test_noughts_at_the_end_are_left_out(self):
        for kind in COEFFICIENT_KINDS:
            for size in range(4):
                poly = Poly(kind, (1, 0, 1) + (0,) * size)
                self.same([len(poly.coefficients), poly.degree], [3, 2])
                self.same([Poly(kind, (0,) * size).coefficients, Poly(kind, (0,) * size).degree], [(), -1])
        self.same(Poly("ratio", (Ratio(1, 2), Ratio(0))).coefficients, (Ratio(1, 2),))
        self.same(Poly("rest 3", (3, 6, -1, 9)).coefficients, (Rest(0, 3), Rest(0, 3), Rest(2, 3)))

    def test_properties(self):
        self.tells(Poly("rest 5", (6, 0, 2)), Poly, kind="rest 5", coefficients=(1, 5, Rest(2, 5), 0))
        poly = Poly(coefficients=(1, 0, 2), kind="ratio")
        self.same([poly.kind, poly.coefficients], ["ratio", (Ratio(1), Ratio(0), Ratio(2))])
        self.same([poly.degree, poly.lead], [2, Ratio(2)])
        for nought in NOUGHTS:
            self.same([nought.degree, nought.lead, nought.coefficients], [-1, None, ()])
        self.same([Poly("whole", (7,)).degree, Poly("whole", (7,)).lead], [0, 7])

    def test_whole_numbers_become_numbers_of_the_kind(self):
        for kind in COEFFICIENT_KINDS:
            for number in Poly(kind, (1, -1, 0, 1)).coefficients:
                self.assertIs(type(number), type(numbers_of(kind)[0]))

    def test_kinds_over_which_there_are_none(self):
        for kind in [*NO_KINDS, *OTHER_KINDS, *SPOILT, 1, Ratio(1), Poly("whole", (1,))]:
            self.refuses(InvalidKind(kind), Poly, kind=kind, coefficients=(1,))
            self.refuses(InvalidKind(kind), Poly, kind=kind, coefficients=None)

    def test_what_is_no_tuple(self):
        for value in (value for value in [*SPOILT, 1, Ratio(1), Poly("whole", (1,)), [1, 2]] if not isinstance(value, tuple)):
            self.refuses(InvalidCoefficients(None), Poly, kind="whole", coefficients=value)
        self.tells(Poly("whole", (0,)), Poly, kind="whole", coefficients=())

    def test_the_first_coefficient_that_is_wrong(self):
        for value in NO_NUMBERS:
            for kind in COEFFICIENT_KINDS:
                self.refuses(InvalidCoefficients(0), Poly, kind=kind, coefficients=(value,))
                self.refuses(InvalidCoefficients(2), Poly, kind=kind, coefficients=(1, 0, value, value, 1))
        for kind, number in product(COEFFICIENT_KINDS, (Ratio(1), Rest(1, 2), Rest(1, 3), Rest(1, 999983))):
            fits = kind == ("ratio" if isinstance(number, Ratio) else f"rest {number.modulus}")
            if not fits:
                self.refuses(InvalidCoefficients(1), Poly, kind=kind, coefficients=(1, number))


class PolySigns(Told):
    def test_sums_differences_and_products(self):
        for polys in LISTS:
            for one, other in product(polys, polys):
                indexes = range(max(one.degree, other.degree) + 1)
                sums = {k: naive(one).get(k, 0) + naive(other).get(k, 0) for k in indexes}
                self.assertEqual(naive(one + other), {k: number for k, number in sums.items() if number})
                self.assertEqual(naive(one * other), naive_product(one, other))
                self.same([one - other + other, (one - other).kind], [one, one.kind])
                self.same(one + (-other), one - other)

    def test_opposites(self):
        for polys in LISTS:
            for poly in polys:
                self.assertEqual(naive(-poly), {index: -number for index, number in naive(poly).items()})
                self.same(poly + (-poly), Poly(poly.kind, ()))

    def test_numbers_of_the_kind_and_whole_ones_on_either_side(self):
        for kind in COEFFICIENT_KINDS:
            for poly in (Poly(kind, ()), Poly(kind, (1, 0, 2)), Poly(kind, (-1,))):
                for number in numbers_of(kind) + [0, 1, -3, 10 ** 50]:
                    alone = Poly(kind, (number,))
                    self.same([poly + number, number + poly], [poly + alone] * 2)
                    self.same([poly - number, number - poly], [poly - alone, alone - poly])
                    self.same([poly * number, number * poly], [poly * alone] * 2)

    def test_two_kinds(self):
        one, other = Poly("ratio", (1, 1)), Poly("whole", (1, 1))
        actions = (lambda a, b: a + b, lambda a, b: a - b, lambda a, b: a * b, lambda a, b: a // b, lambda a, b: a % b)
        for action in actions:
            self.raises(Unlike("ratio", "whole"), lambda: action(one, other))
            self.raises(Unlike("whole", "ratio"), lambda: action(other, one))
            self.raises(Unlike("rest 2", "rest 3"), lambda: action(Poly("rest 2", (1,)), Poly("rest 3", ())))

    def test_nothing_else_is_added(self):
        for value in (True, None, "1", [1], Rest(1, 7)):
            for action in (lambda: Poly("rest 5", (1,)) + value, lambda: value + Poly("rest 5", (1,)),
                           lambda: Poly("rest 5", (1,)) * value, lambda: value - Poly("rest 5", (1,)),
                           lambda: Poly("rest 5", (1,)) - value, lambda: Poly("rest 5", (1,)) // value,
                           lambda: Poly("rest 5", (1,)) % value):
                with self.assertRaises(TypeError):
                    action()

    def test_quotients_and_rests(self):
        for polys in (polys_by(2, 4), polys_by(3, 3), ratio_polys()):
            for one, other in product(polys, polys):
                if other:
                    self.same([(one // other) * other + one % other, (one // other).kind], [one, one.kind])
                    self.assertLess((one % other).degree, other.degree)
                else:
                    self.raises(Nought(), lambda: one // other)
                    self.raises(Nought(), lambda: one % other)

    def test_whole_quotients_need_a_unit_as_lead(self):
        one = Poly("whole", (5, 4, 3, 2))
        self.same([one // Poly("whole", (1, -1)), one % Poly("whole", (1, -1))],
                  [Poly("whole", (-9, -5, -2)), Poly("whole", (14,))])
        self.raises(NotAUnit(2), lambda: one // Poly("whole", (1, 2)))
        self.raises(NotAUnit(-2), lambda: one % Poly("whole", (-2,)))
        self.raises(NotAUnit(2), lambda: Poly("whole", ()) // Poly("whole", (2, 2)))

    def test_what_is_given_stays(self):
        one, other = Poly("ratio", (1, 0, 2)), Poly("ratio", (Ratio(1, 2), 3))
        one + other, one - other, one * other, one // other, one % other, -one, one ** 3, one + 1, 2 * one
        one.at(2), one.slope(), one.monic(), one.put(other)
        self.same([one.text, other.text], ["poly ratio: (1/1,0/1,2/1)", "poly ratio: (1/2,3/1)"])


class PolyPowers(Told):
    def test_powers_are_products(self):
        for poly in (Poly("whole", (1, -2)), Poly("ratio", (Ratio(1, 2), 1)), Poly("rest 3", (1, 2, 1)), *NOUGHTS):
            power = Poly(poly.kind, (1,))
            for exponent in range(65):
                self.tells(power, poly.power, exponent=exponent)
                self.same(poly ** exponent, power)
                power = power * poly

    def test_exponents_that_are_none(self):
        for value in [*NO_NUMBERS, -1, 65, -64, Poly("whole", (2,))]:
            self.refuses(InvalidNumber(value), Poly("whole", (1, 1)).power, exponent=value)
            self.raises(InvalidNumber(value), lambda: Poly("ratio", ()) ** value)


class PolyMethods(Told):
    def test_values(self):
        for kind in COEFFICIENT_KINDS:
            for poly in numbers_of(f"poly {kind}"):
                for number in numbers_of(kind)[1:7]:
                    value = sum([a * number ** k for k, a in naive(poly).items()], start=number - number)
                    self.tells(value, poly.at, number=number)

    def test_values_at_whole_numbers_are_of_the_kind(self):
        self.tells(Ratio(8), Poly("ratio", (-1, 0, 1)).at, number=3)
        self.tells(Rest(2, 3), Poly("rest 3", (1, 1)).at, number=10)
        self.tells(Ratio(0), Poly("ratio", ()).at, number=3)
        self.tells(Rest(0, 3), Poly("rest 3", ()).at, number=Rest(1, 3))
        self.tells(0, Poly("whole", ()).at, number=3)

    def test_values_at_what_is_no_number_of_the_kind(self):
        for kind in COEFFICIENT_KINDS:
            for value in NO_NUMBERS + [Poly(kind, (1,))]:
                self.refuses(InvalidNumber(value), Poly(kind, (1, 1)).at, number=value)
        for kind, value in (("whole", Ratio(1)), ("ratio", Rest(1, 3)), ("rest 3", Ratio(1)), ("rest 3", Rest(1, 2))):
            self.refuses(InvalidNumber(value), Poly(kind, ()).at, number=value)

    def test_slopes(self):
        self.same(Poly("whole", (7, 5, -4, 3)).slope(), Poly("whole", (5, -8, 9)))
        self.same(Poly("ratio", (1, Ratio(1, 2), Ratio(1, 3))).slope(), Poly("ratio", (Ratio(1, 2), Ratio(2, 3))))
        self.same(Poly("rest 3", (1, 2, 1, 1)).slope(), Poly("rest 3", (2, 2)))
        self.same(Poly("rest 2", (1, 0, 1)).slope(), Poly("rest 2", ()))
        for kind in COEFFICIENT_KINDS:
            self.same([Poly(kind, (1,)).slope(), Poly(kind, ()).slope()], [Poly(kind, ())] * 2)

    def test_monic(self):
        for polys in (ratio_polys(), polys_by(2, 3), polys_by(3, 3)):
            for poly in polys:
                if poly:
                    monic = poly.monic()
                    self.same([monic * poly.lead, monic.lead], [poly, Poly(poly.kind, (1,)).lead])
                else:
                    self.raises(Nought(), poly.monic)
        self.raises(NotAField("whole"), Poly("whole", (1, 2)).monic)
        self.raises(NotAField("whole"), Poly("whole", ()).monic)

    def test_put(self):
        for polys, points in ((whole_polys()[:27:4], range(-2, 3)), (ratio_polys()[::5], (Ratio(1, 3), 2)),
                              (polys_by(3, 3)[::2], range(3))):
            for one, other in product(polys, polys):
                together = one.put(other)
                if one and other.degree > 0:
                    self.same(together.degree, one.degree * other.degree)
                for point in points:
                    self.same(together.at(point), one.at(other.at(point)))
        self.tells(Poly("ratio", (0, 2, 1)), Poly("ratio", (-1, 0, 1)).put, other=Poly("ratio", (1, 1)))
        self.tells(Poly("ratio", (-1,)), Poly("ratio", (-1, 0, 1)).put, other=Poly("ratio", ()))
        self.tells(Poly("whole", ()), Poly("whole", ()).put, other=Poly("whole", (1, 1)))

    def test_put_of_what_is_no_poly_over_the_kind(self):
        for value in NO_POLYS:
            self.refuses(NotAPoly(value), Poly("whole", (1, 1)).put, other=value)
        self.refuses(Unlike("ratio", "whole"), Poly("ratio", ()).put, other=Poly("whole", ()))
        self.refuses(Unlike("rest 2", "rest 3"), Poly("rest 2", (1,)).put, other=Poly("rest 3", (1, 1)))


class PolyEquality(Told):
    def test_equal_exactly_if_kind_and_coefficients_are(self):
        polys = whole_polys()[::3] + ratio_polys()[::3] + polys_by(2, 2) + polys_by(3, 2)
        for (i, one), (k, other) in product(enumerate(polys), enumerate(polys)):
            self.same([one == other, one != other], [i == k, i != k])
        self.same(Poly("rest 3", (4, 0)) == Poly("rest 3", (Rest(1, 3),)), True)

    def test_never_to_values_of_another_class(self):
        for value in [1, True, None, (1,), [1], Ratio(1), Rest(1, 5), "poly ratio: (1/1)", object(), Poly]:
            self.same([Poly("ratio", (1,)) == value, value == Poly("ratio", (1,))], [False] * 2)
            self.same([Poly("ratio", (1,)) != value, value != Poly("ratio", (1,))], [True] * 2)

    def test_true_exactly_if_not_nought(self):
        for polys in LISTS:
            for poly in polys:
                self.same(bool(poly), poly.degree >= 0)


class PolyTexts(Told):
    def test_texts_both_ways(self):
        told = {
            "poly whole: ()": Poly("whole", ()), "poly whole: (0,-1)": Poly("whole", (0, -1)),
            "poly ratio: (-1/2,0/1,3/1)": Poly("ratio", (Ratio(-1, 2), 0, 3)), "poly ratio: ()": Poly("ratio", ()),
            "poly rest 7: (0,6)": Poly("rest 7", (0, -1)), "poly rest 2: (1)": Poly("rest 2", (1,)),
        }
        for text, poly in told.items():
            self.same(poly.text, text)
            self.tells(poly, Poly.read, text=text)

    def test_what_is_no_text(self):
        texts = (
            "", "poly", "poly ", "poly whole", "poly whole:", "poly whole: ", "poly whole:()", "poly whole: (", "()",
            "poly whole: )", "poly whole: (0)", "poly whole: (1,0)", "poly whole: (1,)", "poly whole: (,1)", "(1)",
            "poly whole: (1 ,1)", "poly whole: (1, 1)", "poly whole: 1", "poly whole: (01)", "poly whole: (+1)",
            "poly whole: (-0,1)", "poly ratio: (1)", "poly ratio: (2/4)", "poly ratio: (0/1)", "poly ratio: (1/1,0/1)",
            "poly rest 7: (7)", "poly rest 7: (-1)", "poly rest 7: (0)", "poly rest 07: (1)", "poly rest 6: (1)",
            "poly rest 4: ()", "poly poly whole: ()", "poly whole : ()", " poly whole: ()", "poly whole: () ",
            "poly whole: ()()", "poly whole: ((1))", "column whole: 1", "poly  whole: ()", "Poly whole: ()",
        )
        for text in texts:
            self.refuses(InvalidText(text), Poly.read, text=text)
        for value in [value for value in SPOILT if not isinstance(value, str)] + [Poly("whole", (1,)), b"poly whole: ()"]:
            self.refuses(InvalidText(value), Poly.read, text=value)

    def test_read_is_called_off_the_class_and_off_objects(self):
        self.same(Poly("ratio", ()).read("poly whole: (1)"), Poly("whole", (1,)))
