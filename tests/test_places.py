from itertools import permutations, product

from drawn import FIELDS, NO_FIELDS, all_grids, lot
from gridwright.errors import InvalidIndex, InvalidKind, InvalidPlaces, InvalidShape, NotAField, NotRests, Quarrels
from gridwright.grids import Grid
from gridwright.kinds import number_in, number_of, one
from gridwright.places import lots, placed, plain_grid, plain_number, ring_quarrel
from gridwright.polys import Poly
from gridwright.ratios import Ratio
from gridwright.rests import Rest
from gridwright.stairs import rank
from samples import NO_KINDS
from support import SPOILT, Told
from test_looks import NO_SHAPES

CALLS = (ring_quarrel, plain_grid, lots)


def is_plain(grid):
    """Whether a grid has the rank 1 and no nought."""
    return rank(grid) == 1 and all(all(bool(number) for number in row) for row in grid.rows)


def fits(grid, places):
    return all(grid[i, j] == number_in(grid.kind, number) for i, j, number in places)


def is_ring(places, ring):
    """Whether a tuple is a ring of told places, by the words of the document."""
    if type(ring) is not tuple or len(ring) < 4 or len(ring) % 2 or len(set(ring)) < len(ring):
        return False
    sides = [k % 2 for k in range(len(ring))]
    return all(places[at][side] == places[after][side] for at, after, side in zip(ring, ring[1:] + ring[:1], sides))


def quarrels(kind, places, ring):
    products = [one(kind), one(kind)]
    for k, at in enumerate(ring):
        products[k % 2] = products[k % 2] * number_in(kind, places[at][2])
    return products[0] != products[1]


def plain_lots(shape, places):
    """The lots, by joining again and again what two of them share."""
    parts = [({i}, set()) for i in range(shape[0])] + [(set(), {j}) for j in range(shape[1])]
    for i, j, _ in places:
        first = next(part for part in parts if i in part[0])
        second = next(part for part in parts if j in part[1])
        if first is not second:
            parts = [part for part in parts if part is not first and part is not second]
            parts.append((first[0] | second[0], first[1] | second[1]))
    return tuple(sorted((tuple(sorted(rows)), tuple(sorted(columns))) for rows, columns in parts))


def drawn_nonzero(kind, source):
    if kind == "ratio":
        return Ratio(source.choice((-3, -1, 1, 2, 5)), source.choice((1, 1, 2, 3)))
    return Rest(source.randint(1, int(kind[5:]) - 1), int(kind[5:]))


def drawn_places(kind, shape, many, source, plain):
    """So many told places of a drawn plain grid, or of none."""
    rows = [drawn_nonzero(kind, source) for _ in range(shape[0])]
    columns = [drawn_nonzero(kind, source) for _ in range(shape[1])]
    chosen = source.sample(list(product(range(shape[0]), range(shape[1]))), many)
    return tuple((i, j, rows[i] * columns[j] if plain else drawn_nonzero(kind, source)) for i, j in chosen)


def drawn_tales(kind, source):
    """Told places of several shapes, of plain grids and of none."""
    for shape in ((1, 1), (1, 3), (2, 2), (3, 2), (3, 3), (4, 4), (8, 8)):
        for many in sorted({0, 1, 2, 3, 5, min(16, shape[0] * shape[1])}):
            if many <= shape[0] * shape[1]:
                for plain in (True, False):
                    yield shape, drawn_places(kind, shape, many, source, plain)


class Rings(Told):
    def one_of_both(self, kind, shape, places):
        """That a plain grid that fits is told, or a ring that quarrels, and never both."""
        ring, grid = ring_quarrel(kind, shape, places), plain_grid(kind, shape, places)
        named = {"kind": kind, "shape": shape, "places": places}
        self.tells(ring, ring_quarrel, **named)
        self.tells(grid, plain_grid, **named)
        self.same(ring is None, grid is not None)
        if ring is None:
            self.same([grid.kind, grid.shape, is_plain(grid), fits(grid, places)], [kind, shape, True, True])
        else:
            self.assertTrue(is_ring(places, ring), (places, ring))
            self.assertTrue(quarrels(kind, places, ring), (places, ring))
        return ring is None

    def test_over_drawn_places(self):
        for kind in FIELDS:
            for shape, places in drawn_tales(kind, lot(f"rings {kind}")):
                self.one_of_both(kind, shape, places)

    def test_places_of_plain_grids_never_quarrel(self):
        for kind in FIELDS:
            source = lot(f"plain {kind}")
            for shape in ((2, 2), (3, 4), (8, 8)):
                places = drawn_places(kind, shape, min(16, shape[0] * shape[1]), source, True)
                self.same(self.one_of_both(kind, shape, places), True)

    def test_a_plain_grid_fits_exactly_if_no_ring_quarrels(self):
        for prime, shape in ((2, (2, 2)), (3, (2, 2)), (3, (2, 3)), (5, (2, 2))):
            kind, source = f"rest {prime}", lot(f"rings by {prime}")
            grids = [grid for grid in all_grids(prime, *shape) if is_plain(grid)]
            for many in range(shape[0] * shape[1] + 1):
                for plain in (True, False, False):
                    places = drawn_places(kind, shape, many, source, plain)
                    self.same(self.one_of_both(kind, shape, places), any(fits(grid, places) for grid in grids))

    def test_all_orders_of_a_ring(self):
        told = ((0, 0, 1), (0, 1, 2), (1, 1, 3), (1, 0, 5))
        for places in permutations(told):
            self.same(self.one_of_both("ratio", (2, 2), places), False)
            self.same(self.one_of_both("rest 2", (2, 2), tuple((i, j, 1) for i, j, _ in places)), True)

    def test_long_rings(self):
        # One ring over all eight rows and places, through sixteen told places.
        ring = tuple(place for k in range(8) for place in ((k, k, 1), (k, (k + 1) % 8, 1)))
        self.same(self.one_of_both("ratio", (8, 8), ring), True)
        wrong = ring[:5] + ((2, 3, 2),) + ring[6:]
        self.same(len(ring_quarrel("ratio", (8, 8), wrong)), 16)
        self.same(self.one_of_both("ratio", (8, 8), wrong), False)
        self.same(self.one_of_both("ratio", (8, 8), wrong[:15]), True)


class Lots(Told):
    def test_by_joining(self):
        source = lot("lots")
        for shape, places in drawn_tales("ratio", source):
            self.tells(plain_lots(shape, places), lots, kind="ratio", shape=shape, places=places)

    def test_joined_over_others_and_to_none(self):
        self.tells((((), (0,)), ((), (1,)), ((0,), ()), ((1,), ()), ((2,), ())), lots, kind="ratio", shape=(3, 2), places=())
        seen = ((0, 0, 2), (1, 0, 3), (1, 2, 5))
        self.tells((((), (1,)), ((0, 1), (0, 2)), ((2,), ())), lots, kind="ratio", shape=(3, 3), places=seen)
        # Also where a ring quarrels they are told.
        bad = ((0, 0, 1), (0, 1, 1), (1, 0, 1), (1, 1, 2))
        self.tells((((0, 1), (0, 1)),), lots, kind="ratio", shape=(2, 2), places=bad)


class Placed(Told):
    def test_the_same_in_all_that_fit(self):
        for prime, shape in ((2, (2, 2)), (3, (2, 2)), (3, (2, 3)), (5, (2, 2)), (2, (3, 3)), (3, (1, 3))):
            kind, source = f"rest {prime}", lot(f"placed by {prime}")
            grids = [grid for grid in all_grids(prime, *shape) if is_plain(grid)]
            for many in range(min(5, shape[0] * shape[1] + 1)):
                for plain in (True, False):
                    places = drawn_places(kind, shape, many, source, plain)
                    fitting = [grid for grid in grids if fits(grid, places)]
                    self.tells(len(fitting), plain_number, kind=kind, shape=shape, places=places)
                    for i, j in product(range(shape[0]), range(shape[1])):
                        named = {"kind": kind, "shape": shape, "places": places, "i": i, "j": j}
                        if not fitting:
                            self.refuses(Quarrels(), placed, **named)
                            continue
                        found = {grid[i, j].number for grid in fitting}
                        self.tells(fitting[0][i, j] if len(found) == 1 else None, placed, **named)

    def test_over_drawn_places(self):
        for kind in FIELDS:
            for shape, places in drawn_tales(kind, lot(f"placed {kind}")):
                grid = plain_grid(kind, shape, places)
                if grid is not None:
                    for i, j in ((0, 0), (shape[0] - 1, shape[1] - 1), (0, shape[1] - 1)):
                        joined = any(i in rows and j in columns for rows, columns in lots(kind, shape, places))
                        expected = grid[i, j] if joined or kind == "rest 2" else None
                        self.tells(expected, placed, kind=kind, shape=shape, places=places, i=i, j=j)

    def test_numbers_by_lots(self):
        for prime in (2, 3, 97, 999983):
            kind = f"rest {prime}"
            for shape, places in drawn_tales(kind, lot(f"numbers by lots {prime}")):
                many = len(lots(kind, shape, places))
                expected = (prime - 1) ** (many - 1) if ring_quarrel(kind, shape, places) is None else 0
                self.tells(expected, plain_number, kind=kind, shape=shape, places=places)
        self.tells(4, plain_number, kind="rest 5", shape=(2, 3), places=((0, 0, 2), (0, 1, 3), (1, 0, 4)))
        self.tells(1, plain_number, kind="rest 2", shape=(8, 8), places=())
        self.tells(0, plain_number, kind="rest 3", shape=(2, 2), places=((0, 0, 1), (0, 1, 1), (1, 0, 1), (1, 1, 2)))

    def test_by_two_each_number_is_one(self):
        for i, j in product(range(3), range(2)):
            self.tells(Rest(1, 2), placed, kind="rest 2", shape=(3, 2), places=(), i=i, j=j)
            self.tells(None, placed, kind="rest 3", shape=(3, 2), places=(), i=i, j=j)
        self.tells(Grid(((Rest(1, 2),) * 8,) * 8), plain_grid, kind="rest 2", shape=(8, 8), places=())

    def test_numbers_are_of_the_kind(self):
        self.tells(Ratio(6), placed, kind="ratio", shape=(2, 2), places=((0, 0, 2), (0, 1, 3), (1, 0, 4)), i=1, j=1)
        self.tells(Ratio(2), placed, kind="ratio", shape=(1, 1), places=((0, 0, 2),), i=0, j=0)
        self.tells(Rest(4, 5), placed, kind="rest 5", shape=(1, 1), places=((0, 0, -1),), i=0, j=0)
        self.same(number_of("rest 5", 9), Rest(4, 5))


class Refusals(Told):
    def test_in_their_order(self):
        calls = [(call, {}) for call in (*CALLS, plain_number)] + [(placed, {"i": None, "j": None})]
        for call, more in calls:
            for value in [*SPOILT, *NO_KINDS]:
                self.refuses(InvalidKind(value), call, kind=value, shape=None, places=None, **more)
            for kind in NO_FIELDS:
                self.refuses(NotAField(kind), call, kind=kind, shape=None, places=None, **more)
            for value in NO_SHAPES:
                self.refuses(InvalidShape(value, None), call, kind="ratio", shape=value, places=None, **more)
            for value in [*[one for one in SPOILT if not isinstance(one, tuple)], 1, Grid, [(0, 0, 1)]]:
                self.refuses(InvalidPlaces(None), call, kind="ratio", shape=(2, 3), places=value, **more)
            wrong = [*SPOILT, (0, 1), (0, 1, 2, 3), [0, 1, 2], (2, 0, 1), (0, 3, 1), (-1, 0, 1), (0, True, 1), (0, 1, None), (0, 1, True),
                     (0, 1, 0), (0, 1, Ratio(0)), (0, 1, Rest(1, 3)), (0, 1, Poly("ratio", (1,))), (0, 0, 5), (Ratio(1), 0, 1)]
            for value in wrong:
                self.refuses(InvalidPlaces(1), call, kind="ratio", shape=(2, 3), places=((0, 0, 1), value, None), **more)
            seventeen = tuple((k // 5, k % 5, 1) for k in range(17))
            self.refuses(InvalidPlaces(16), call, kind="ratio", shape=(8, 8), places=seventeen, **more)
            self.refuses(InvalidPlaces(15), call, kind="ratio", shape=(8, 8), places=seventeen[:15] + (None,) * 3, **more)
        self.refuses(InvalidPlaces(0), ring_quarrel, kind="rest 3", shape=(1, 1), places=((0, 0, 3),))
        self.same(ring_quarrel("ratio", (8, 8), tuple((k // 4, k % 4, 1) for k in range(16))), None)

    def test_indexes(self):
        bad = ((0, 0, 1), (0, 1, 1), (1, 0, 1), (1, 1, 2))
        for value in [*SPOILT, -1, 2, 10 ** 40, Ratio(0)]:
            self.refuses(InvalidIndex(value), placed, kind="ratio", shape=(2, 3), places=bad, i=value, j=None)
            if value != 2:
                self.refuses(InvalidIndex(value), placed, kind="ratio", shape=(2, 2), places=bad, i=0, j=value)
        self.refuses(InvalidIndex(3), placed, kind="ratio", shape=(2, 3), places=bad, i=0, j=3)
        self.refuses(Quarrels(), placed, kind="ratio", shape=(2, 3), places=bad, i=0, j=2)

    def test_counts_are_by_primes(self):
        for places in ((), ((0, 0, 1), (0, 1, 1), (1, 0, 1), (1, 1, 2))):
            self.refuses(NotRests("ratio"), plain_number, kind="ratio", shape=(2, 2), places=places)
        self.refuses(InvalidPlaces(0), plain_number, kind="ratio", shape=(2, 2), places=(None,))
