from itertools import product

from drawn import (
    FIELDS, NO_FIELDS, all_columns, all_grids, chains_of_polys, drawn_column, drawn_grid, lot, plain_blocks, turned_around,
)
from gridwright.columns import Column, unit_column
from gridwright.dividing import least_multiple
from gridwright.errors import InvalidColumns, InvalidShape, NotAColumn, NotAField, NotAGrid, NotSquare, Unlike
from gridwright.grids import Grid, from_columns, nought_grid, one_grid
from gridwright.kinds import nought
from gridwright.leading import led
from gridwright.letters import poly_at, poly_on
from gridwright.polys import Poly
from gridwright.ratios import Ratio
from gridwright.rounds import column_poly, full_column, is_kept, kept_base, least_poly, round_of
from gridwright.spans import base_of, in_span
from gridwright.stairs import rank
from samples import is_part, monic_by
from support import Told
from test_columns import NO_COLUMNS
from test_grids import NO_GRIDS


def told_grids(kind, sizes=range(1, 9)):
    """Grids with told chains of core polys."""
    source = lot(f"told grids {kind}")
    for size in sizes:
        for polys in chains_of_polys(kind, size):
            yield turned_around(plain_blocks(polys), source), polys


def noughts(kind, size):
    return Column((nought(kind),) * size)


class LeastPolys(Told):
    def test_of_columns_by_trying_all_polys(self):
        for prime, size in ((2, 2), (3, 2), (2, 3)):
            polys = sorted(monic_by(prime, size), key=lambda poly: poly.degree)
            for grid in list(all_grids(prime, size, size))[::7 if size == 3 else 1]:
                for column in all_columns(prime, size):
                    fitting = [poly for poly in polys if not poly_on(poly, grid, column)]
                    self.tells(fitting[0], column_poly, grid=grid, column=column)
                    self.same(len([poly for poly in fitting if poly.degree == fitting[0].degree]), 1)

    def test_of_columns_of_all_kinds(self):
        source = lot("column polys")
        for kind, size in product(FIELDS, (1, 2, 5, 8)):
            grid, column = drawn_grid(kind, size, size, source), drawn_column(kind, size, source)
            found = column_poly(grid, column)
            self.tells(found, column_poly, grid=grid, column=column)
            self.same([found.kind, found.monic(), poly_on(found, grid, column)], [kind, found, noughts(kind, size)])
            told = round_of(grid, column)
            self.tells(told, round_of, grid=grid, column=column)
            self.same([type(told), len(told)], [tuple, found.degree])
            place = column
            for step in told:
                self.same(step, place)
                place = grid * place
            # A poly of less degree would make the round not free.
            if told:
                self.same(rank(from_columns(told)), len(told))

    def test_the_nought_column(self):
        for kind, size in product(FIELDS, (1, 8)):
            grid = drawn_grid(kind, size, size, lot("nought columns"))
            self.tells(Poly(kind, (1,)), column_poly, grid=grid, column=noughts(kind, size))
            self.tells((), round_of, grid=grid, column=noughts(kind, size))

    def test_of_grids_by_trying_all_polys(self):
        for prime, size in ((2, 1), (2, 2), (3, 2), (2, 3)):
            polys = sorted(monic_by(prime, size), key=lambda poly: poly.degree)
            for grid in list(all_grids(prime, size, size))[::5 if size == 3 else 1]:
                fitting = [poly for poly in polys if not poly_at(poly, grid)]
                self.tells(fitting[0], least_poly, grid=grid)
                self.same(all(is_part(fitting[0], poly) for poly in fitting), True)

    def test_of_told_grids_it_is_the_last_core_poly(self):
        for kind in FIELDS:
            for grid, polys in told_grids(kind):
                self.tells(polys[-1], least_poly, grid=grid)
                for found in (full_column(grid), full_column(grid=grid)):
                    self.same([type(found), found.kind, column_poly(grid, found)], [Column, kind, polys[-1]])

    def test_it_is_the_least_multiple_of_those_of_the_unit_columns(self):
        source = lot("least multiples")
        for kind, size in product(FIELDS, (1, 3, 6, 8)):
            grid = drawn_grid(kind, size, size, source)
            total = Poly(kind, (1,))
            for k in range(size):
                total = least_multiple(total, column_poly(grid, unit_column(kind, size, k)))
            self.same(least_poly(grid), total)
            self.same(column_poly(grid, full_column(grid)), total)

    def test_full_columns_where_no_unit_column_is_one(self):
        x = Poly("rest 2", (0, 1))
        for polys in ((x, x * (x + 1)), (x * (x + 1),), (x ** 2 * (x + 1) ** 3,), (x * (x + 1) * (x * x + x + 1),)):
            for k in range(6):
                grid = turned_around(plain_blocks(polys), lot(f"full {k}"))
                self.same(column_poly(grid, full_column(grid)), polys[-1])
        # Each unit column has another one of these, and only their sum all of them.
        grid = led(Grid(((0, 0, 0), (0, 1, 0), (0, 0, 2))), "rest 3")
        self.same(full_column(grid).text.count("0"), 0)
        grid = led(Grid(((1, 0, 0, 0), (0, 0, 0, 0), (0, 1, 0, 0), (0, 0, 0, 1))), "rest 2")
        self.same(column_poly(grid, full_column(grid)), least_poly(grid))

    def test_the_edges(self):
        for kind in FIELDS:
            self.tells(Poly(kind, (0, 1)), least_poly, grid=nought_grid(kind, 8, 8))
            self.tells(Poly(kind, (-1, 1)), least_poly, grid=one_grid(kind, 8))
        far = 10 ** 30 + 57
        grid = led(Grid(((far, 1), (0, far))), "ratio")
        self.tells(Poly("ratio", (-far, 1)) ** 2, least_poly, grid=grid)
        self.tells(Poly("ratio", (-far, 1)), column_poly, grid=grid, column=Column((Ratio(1), 0)))


class KeptSpans(Told):
    def test_the_least_kept_span(self):
        source = lot("kept spans")
        for kind in FIELDS:
            for grid, _ in list(told_grids(kind))[::3]:
                size = len(grid)
                for many in (1, 2, 9):
                    columns = tuple(drawn_column(kind, size, source) for _ in range(many))
                    base = kept_base(grid, columns)
                    self.tells(base, kept_base, grid=grid, columns=columns)
                    rounds = tuple(step for column in columns for step in round_of(grid, column))
                    self.same(base, base_of(rounds) if rounds else ())
                    self.same([is_kept(grid, base)] if base else [True], [True])
                    for column in columns:
                        self.assertIsNotNone(in_span(base or (noughts(kind, size),), column))

    def test_whether_a_span_is_kept(self):
        source = lot("is kept")
        for kind in FIELDS:
            for grid, _ in list(told_grids(kind, (2, 3, 5)))[::2]:
                for many in (1, 2):
                    columns = tuple(drawn_column(kind, len(grid), source) for _ in range(many))
                    expected = all(in_span(columns, grid * column) is not None for column in columns)
                    self.tells(expected, is_kept, grid=grid, columns=columns)

    def test_the_edges(self):
        for kind in FIELDS:
            grid = one_grid(kind, 3)
            zero = noughts(kind, 3)
            self.tells((), kept_base, grid=grid, columns=(zero, zero))
            self.tells(True, is_kept, grid=grid, columns=(zero,))
            column = unit_column(kind, 3, 1)
            self.tells((column,), kept_base, grid=grid, columns=(column, column))
            self.tells(True, is_kept, grid=grid, columns=(column,))
        step = led(Grid(((0, 0), (1, 0))), "ratio")
        self.tells(False, is_kept, grid=step, columns=(unit_column("ratio", 2, 0),))
        self.tells(True, is_kept, grid=step, columns=(unit_column("ratio", 2, 1),))
        self.tells(base_of((unit_column("ratio", 2, 0), unit_column("ratio", 2, 1))), kept_base,
                   grid=step, columns=(unit_column("ratio", 2, 0),))
        # As many columns as one likes.
        self.tells((unit_column("ratio", 2, 1),), kept_base, grid=step, columns=(unit_column("ratio", 2, 1),) * 50)


class Refusals(Told):
    def test_in_their_order(self):
        good, column = nought_grid("ratio", 2, 2), Column((Ratio(1), 2))
        for value in NO_GRIDS:
            for call in (least_poly, full_column):
                self.refuses(NotAGrid(value), call, grid=value)
            for call in (column_poly, round_of):
                self.refuses(NotAGrid(value), call, grid=value, column=None)
            for call in (kept_base, is_kept):
                self.refuses(NotAGrid(value), call, grid=value, columns=None)
        for value in NO_COLUMNS:
            for call in (column_poly, round_of):
                self.refuses(NotAColumn(value), call, grid=nought_grid("whole", 1, 2), column=value)
            for call in (kept_base, is_kept):
                self.refuses(InvalidColumns(0), call, grid=nought_grid("whole", 1, 2), columns=(value,))
                self.refuses(InvalidColumns(1), call, grid=nought_grid("whole", 1, 2), columns=(column, value))
        for value in (None, (), [column], "x", 5):
            for call in (kept_base, is_kept):
                self.refuses(InvalidColumns(None), call, grid=nought_grid("whole", 1, 2), columns=value)
        for kind in NO_FIELDS:
            for call in (least_poly, full_column):
                self.refuses(NotAField(kind), call, grid=nought_grid(kind, 2, 3))
            for call, name, wrap in ((column_poly, "column", False), (round_of, "column", False), (kept_base, "columns", True),
                                     (is_kept, "columns", True)):
                other = noughts(kind, 3)
                self.refuses(NotAField(kind), call, grid=nought_grid(kind, 2, 3), **{name: (column,) if wrap else column})
                self.refuses(NotAField(kind), call, grid=nought_grid("ratio", 2, 3), **{name: (other,) if wrap else other})
        for call, name, wrap in ((column_poly, "column", False), (round_of, "column", False), (kept_base, "columns", True),
                                 (is_kept, "columns", True)):
            for grid, other, error in (
                (nought_grid("ratio", 2, 3), noughts("rest 3", 1), Unlike("ratio", "rest 3")),
                (nought_grid("ratio", 2, 3), noughts("ratio", 1), NotSquare((2, 3))),
                (good, noughts("ratio", 3), InvalidShape((2, 2), (3, 1))),
            ):
                self.refuses(error, call, grid=grid, **{name: (other, other) if wrap else other})
        for call in (least_poly, full_column):
            self.refuses(NotSquare((2, 3)), call, grid=nought_grid("ratio", 2, 3))
