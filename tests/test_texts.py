from itertools import product

from gridwright.errors import InvalidText
from gridwright.kinds import read_number, written
from gridwright.polys import Poly
from gridwright.ratios import Ratio
from gridwright.rests import Rest
from samples import COEFFICIENT_KINDS, OTHER_KINDS, numbers_of, polys_by, ratio_polys, whole_polys
from support import Told

SIGNS = "0123456789-+/,() :;_.xwp"


def changed(text):
    """All texts that come of one sign put in, left out or changed, or two neighbours exchanged."""
    for place in range(len(text) + 1):
        for sign in SIGNS:
            yield text[:place] + sign + text[place:]
            yield text[:place] + sign + text[place + 1:]
        yield text[:place] + text[place + 1:]
        yield text[:place] + text[place:place + 2][::-1] + text[place + 2:]


class Texts(Told):
    def holds(self, read, text_of, value):
        """A text leads back, and each text near it is that of another value or is refused."""
        text = text_of(value)
        self.same(read(text), value)
        for other in changed(text):
            if other != text:
                try:
                    found = read(other)
                except InvalidText as error:
                    self.same(error.given, other)
                else:
                    self.same(text_of(found), other)
                    self.assertFalse(found == value, other)

    def test_ratios(self):
        for ratio in (Ratio(0), Ratio(1), Ratio(-1, 2), Ratio(12, 7), Ratio(-100, 9), Ratio(7, 10)):
            self.holds(Ratio.read, lambda value: value.text, ratio)

    def test_numbers_whose_kind_is_known(self):
        told = {
            "whole": (0, 1, -1, 10, -120), "ratio": (Ratio(0), Ratio(-3, 20)), "rest 2": (Rest(1, 2),),
            "rest 12": (Rest(0, 12), Rest(11, 12)), "poly whole": (Poly("whole", ()), Poly("whole", (0, -10, 3))),
            "poly ratio": (Poly("ratio", ()), Poly("ratio", (0, Ratio(-1, 2)))),
            "poly rest 3": (Poly("rest 3", (0, 2, 1)),),
        }
        for kind, numbers in told.items():
            for number in numbers:
                self.holds(lambda text: read_number(kind, text), written, number)

    def test_polys_by_themselves(self):
        polys = (
            Poly("whole", ()), Poly("whole", (7,)), Poly("whole", (0, -10, 1)), Poly("ratio", ()),
            Poly("ratio", (0, Ratio(-1, 2))), Poly("rest 13", (0, 12)), Poly("rest 2", (1,)), Poly("rest 997", ()),
        )
        for poly in polys:
            self.holds(Poly.read, lambda value: value.text, poly)

    def test_unlike_values_have_unlike_texts(self):
        polys = [*whole_polys(), *ratio_polys(), *polys_by(2, 3), *polys_by(3, 3), Poly("rest 5", ())]
        self.same(len({poly.text for poly in polys}), len(polys))
        for kind in COEFFICIENT_KINDS + OTHER_KINDS:
            for one, other in product(numbers_of(kind), repeat=2):
                self.same(written(one) == written(other), one == other)

    def test_the_text_of_a_poly_is_that_of_the_number_behind_its_kind(self):
        for poly in [*whole_polys(), *ratio_polys(), *polys_by(3, 2)]:
            self.same(poly.text, f"poly {poly.kind}: {written(poly)}")
            self.same(read_number(f"poly {poly.kind}", written(poly)), poly)
            self.same(Poly.read(poly.text), poly)
