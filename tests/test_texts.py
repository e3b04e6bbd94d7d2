from itertools import product

from drawn import KINDS, all_columns, all_grids, drawn_column, drawn_grid, lot
from gridwright.columns import Column
from gridwright.errors import InvalidText
from gridwright.grids import Grid
from gridwright.kinds import read_number, written
from gridwright.polys import Poly
from gridwright.ratios import Ratio
from gridwright.rests import Rest
from samples import COEFFICIENT_KINDS, OTHER_KINDS, numbers_of, polys_by, ratio_polys, whole_polys
from support import Told

SIGNS = "0123456789-+/,() :;_.xwp"


def changed(text):
    """All texts that come of one sign put in, left out or changed, or two neighbours exchanged."""
    for place in range(len(text) + 1):
        for sign in SIGNS:
            yield text[:place] + sign + text[place:]
            yield text[:place] + sign + text[place + 1:]
        yield text[:place] + text[place + 1:]
        yield text[:place] + text[place:place + 2][::-1] + text[place + 2:]


class Texts(Told):
    def holds(self, read, text_of, value):
        """A text leads back, and each text near it is that of another value or is refused."""
        text = text_of(value)
        self.same(read(text), value)
        for other in changed(text):
            if other != text:
                try:
                    found = read(other)
                except InvalidText as error:
                    self.same(error.given, other)
                else:
                    self.same(text_of(found), other)
                    self.assertFalse(found == value, other)

    def test_ratios(self):
        for ratio in (Ratio(0), Ratio(1), Ratio(-1, 2), Ratio(12, 7), Ratio(-100, 9), Ratio(7, 10)):
            self.holds(Ratio.read, lambda value: value.text, ratio)

    def test_numbers_whose_kind_is_known(self):
        told = {
            "whole": (0, 1, -1, 10, -120), "ratio": (Ratio(0), Ratio(-3, 20)), "rest 2": (Rest(1, 2),),
            "rest 12": (Rest(0, 12), Rest(11, 12)), "poly whole": (Poly("whole", ()), Poly("whole", (0, -10, 3))),
            "poly ratio": (Poly("ratio", ()), Poly("ratio", (0, Ratio(-1, 2)))),
            "poly rest 3": (Poly("rest 3", (0, 2, 1)),),
        }
        for kind, numbers in told.items():
            for number in numbers:
                self.holds(lambda text: read_number(kind, text), written, number)

    def test_polys_by_themselves(self):
        polys = (
            Poly("whole", ()), Poly("whole", (7,)), Poly("whole", (0, -10, 1)), Poly("ratio", ()),
            Poly("ratio", (0, Ratio(-1, 2))), Poly("rest 13", (0, 12)), Poly("rest 2", (1,)), Poly("rest 997", ()),
        )
        for poly in polys:
            self.holds(Poly.read, lambda value: value.text, poly)

    def test_columns_of_every_kind(self):
        columns = (
            Column((0,)), Column((-1, 10, 0)), Column((Ratio(1, 2), -2)), Column((Rest(0, 12), 11)), Column((Rest(1, 2),) * 3),
            Column((Poly("whole", (0, -1)), 0)), Column((Poly("ratio", (Ratio(1, 2),)),)), Column((Poly("rest 3", (1, 2)), 2)),
            Column((1, 0, 2, 3, 4, 5, 6, 7)), Column((Rest(7, 1000000),)),
        )
        for column in columns:
            self.holds(Column.read, lambda value: value.text, column)

    def test_grids_of_every_kind(self):
        grids = (
            Grid(((0,),)), Grid(((1, -2), (30, 4))), Grid(((Ratio(1, 2), 0),)), Grid(((Rest(3, 4),), (0,))),
            Grid(((Rest(2, 11), 10), (0, 1))), Grid(((Poly("whole", (0, 1)), 0), (1, -2))), Grid(((Poly("ratio", ()),),)),
            Grid(((Poly("rest 2", (1, 1)),), (1,))), Grid(tuple((k,) for k in range(8))), Grid(((Poly("whole", ()),),)),
        )
        for grid in grids:
            self.holds(Grid.read, lambda value: value.text, grid)

    def test_drawn_columns_and_grids(self):
        source = lot("texts")
        texts = {}
        for kind, size in product(KINDS, (1, 3, 8)):
            for value in (drawn_column(kind, size, source), drawn_grid(kind, size, 2, source), drawn_grid(kind, 8, size, source)):
                self.same(type(value).read(value.text), value)
                self.same(texts.setdefault(value.text, value), value)

    def test_the_words_of_a_text(self):
        source = lot("words")
        for kind in KINDS:
            grid = drawn_grid(kind, 3, 2, source)
            rows = [" ".join([written(number) for number in row]) for row in grid.rows]
            self.same(grid.text, f"grid {kind}: {rows[0]}; {rows[1]}; {rows[2]}")
            self.same(grid.row(0).text, f"column {kind}: {rows[0]}")

    def test_unlike_columns_and_grids_have_unlike_texts(self):
        values = [*all_columns(2, 1), *all_columns(2, 3), *all_columns(3, 2), *all_grids(2, 1, 3), *all_grids(2, 2, 2),
                  *all_grids(3, 2, 1), *all_grids(2, 3, 1)]
        self.same(len({value.text for value in values}), len(values))

    def test_numbers_of_four_thousand_figures(self):
        column = Column((10 ** 3999, -(10 ** 3999)))
        self.same(Column.read(column.text), column)

    def test_unlike_values_have_unlike_texts(self):
        polys = [*whole_polys(), *ratio_polys(), *polys_by(2, 3), *polys_by(3, 3), Poly("rest 5", ())]
        self.same(len({poly.text for poly in polys}), len(polys))
        for kind in COEFFICIENT_KINDS + OTHER_KINDS:
            for one, other in product(numbers_of(kind), repeat=2):
                self.same(written(one) == written(other), one == other)

    def test_the_text_of_a_poly_is_that_of_the_number_behind_its_kind(self):
        for poly in [*whole_polys(), *ratio_polys(), *polys_by(3, 2)]:
            self.same(poly.text, f"poly {poly.kind}: {written(poly)}")
            self.same(read_number(f"poly {poly.kind}", written(poly)), poly)
            self.same(Poly.read(poly.text), poly)
