from itertools import permutations, product

from drawn import (
    FIELDS, all_grids, drawn_column, drawn_grid, drawn_of_rank, drawn_turning, lot, plain_minor, plain_one,
)
from gridwright.dets import det
from gridwright.errors import NoInverse, NoTriangles
from gridwright.grids import Grid, exchange_grid, is_lower, is_upper, nought_grid, one_grid, order_sign
from gridwright.halves import inner_inverse, left_inverse, lower_upper, ordered_triangles, right_inverse
from gridwright.kinds import one, unit_inverse
from gridwright.leading import led
from gridwright.ratios import Ratio
from gridwright.solving import solution
from gridwright.stairs import rank
from support import Told

SHAPES = ((1, 1), (1, 8), (8, 1), (2, 3), (3, 2), (4, 4), (8, 5), (5, 8), (8, 8))


def by_all_ranks(kind, name):
    source = lot(name)
    for height, width in SHAPES:
        for wanted in sorted({0, 1, min(height, width) - 1, min(height, width)}):
            yield drawn_of_rank(kind, height, width, wanted, source), wanted


def first_nought_minor(grid):
    """The first size from 1 to n - 1 whose leading minor is nought, None if there is none."""
    for size in range(1, len(grid)):
        if not plain_minor(grid, range(size), range(size)):
            return size
    return None


def plain_triangles(grid):
    """The triple by the words of the document, with rows that are taken off one after the other."""
    rows = {k: list(row) for k, row in enumerate(grid.rows)}
    factors = {k: [] for k in rows}
    left, order = list(rows), []
    for place in range(len(grid)):
        filled = [k for k in left if rows[k][place]]
        chosen = filled[0] if filled else left[0]
        left.remove(chosen)
        order.append(chosen)
        for k in left:
            times = rows[k][place] * unit_inverse(rows[chosen][place]) if filled else one(grid.kind) - one(grid.kind)
            factors[k].append(times)
            rows[k] = [a - times * b for a, b in zip(rows[k], rows[chosen])]
    lower = [[*factors[k], one(grid.kind)] + [one(grid.kind) - one(grid.kind)] * (len(grid) - at - 1) for at, k in enumerate(order)]
    return tuple(order), Grid(tuple(tuple(row) for row in lower)), Grid(tuple(tuple(rows[k]) for k in order))


def has_ones(grid):
    return all(grid[k, k] == one(grid.kind) for k in range(len(grid)))


class Inverses(Told):
    def test_left_and_right_exactly_by_the_rank(self):
        for kind in FIELDS:
            for grid, wanted in by_all_ranks(kind, "left and right"):
                height, width = grid.shape
                for call, side in ((left_inverse, width), (right_inverse, height)):
                    if wanted < side:
                        self.refuses(NoInverse(), call, grid=grid)
                        continue
                    for found in (call(grid), call(grid=grid)):
                        self.same([found.shape, found.kind], [(width, height), kind])
                        made = found * grid if call is left_inverse else grid * found
                        self.same(made, plain_one(kind, side))

    def test_of_a_turning_grid_it_is_the_inverse(self):
        source = lot("turning grids")
        for kind, size in product(FIELDS, (1, 3, 8)):
            grid = drawn_turning(kind, size, source)
            for call in (left_inverse, right_inverse, inner_inverse):
                self.same(call(grid), grid ** -1)

    def test_inner_inverses(self):
        source = lot("inner inverses")
        for kind in FIELDS:
            for grid, wanted in by_all_ranks(kind, "inner"):
                for found in (inner_inverse(grid), inner_inverse(grid=grid)):
                    self.same([found.shape, found.kind], [(grid.shape[1], grid.shape[0]), kind])
                    self.same(grid * found * grid, grid)
                for column in (grid * drawn_column(kind, grid.shape[1], source), drawn_column(kind, len(grid), source)):
                    self.same(grid * inner_inverse(grid) * column == column, solution(grid, column) is not None)

    def test_all_small_grids(self):
        for prime, height, width in ((2, 2, 2), (2, 2, 3), (2, 3, 2), (3, 2, 2)):
            for grid in all_grids(prime, height, width):
                self.same(grid * inner_inverse(grid) * grid, grid)
                wanted = rank(grid)
                for call, side in ((left_inverse, width), (right_inverse, height)):
                    if wanted == side:
                        found = call(grid)
                        self.same(found * grid if call is left_inverse else grid * found, one_grid(grid.kind, side))
                    else:
                        self.refuses(NoInverse(), call, grid=grid)


class Triangles(Told):
    def grids(self, kind, name):
        source = lot(name)
        for size in (1, 2, 3, 4, 6):
            for _ in range(3):
                yield drawn_grid(kind, size, size, source)
            for wanted in range(size + 1):
                yield drawn_of_rank(kind, size, size, wanted, source)
        yield drawn_of_rank(kind, 8, 8, 8, source)
        yield drawn_of_rank(kind, 8, 8, 5, source)
        yield nought_grid(kind, 8, 8)

    def test_rows_as_they_stand(self):
        for kind in FIELDS:
            for grid in self.grids(kind, "as they stand"):
                if len(grid) == 8:
                    # There the minors by their definition take too long.
                    continue
                size = first_nought_minor(grid)
                if size is not None:
                    self.refuses(NoTriangles(size), lower_upper, grid=grid)
                    continue
                lower, upper = lower_upper(grid)
                self.tells((lower, upper), lower_upper, grid=grid)
                self.same([is_lower(lower), is_upper(upper), has_ones(lower), lower * upper], [True, True, True, grid])
                self.same([lower.kind, upper.kind], [kind, kind])

    def test_only_one_pair(self):
        source = lot("one pair")
        for kind, size in product(FIELDS, (1, 2, 4, 8)):
            lower = Grid(tuple(tuple(
                drawn_grid(kind, 1, 1, source)[0, 0] if j < i else int(i == j) * one(kind) for j in range(size)) for i in range(size)))
            upper = Grid(tuple(tuple(
                drawn_grid(kind, 1, 1, source)[0, 0] if j > i else one(kind) if i == j and i < size - 1 else 0 * one(kind)
                for j in range(size)) for i in range(size)))
            self.tells((lower, upper), lower_upper, grid=lower * upper)

    def test_the_last_minor_may_be_nought(self):
        grid = led(Grid(((1, 2), (2, 4))), "ratio")
        self.tells((led(Grid(((1, 0), (2, 1))), "ratio"), led(Grid(((1, 2), (0, 0))), "ratio")), lower_upper, grid=grid)
        self.tells((Grid(((Ratio(1),),)), Grid(((Ratio(0),),))), lower_upper, grid=Grid(((Ratio(0),),)))

    def test_the_first_nought_leading_minor_is_told(self):
        self.refuses(NoTriangles(2), lower_upper, grid=led(Grid(((1, 1, 0), (1, 1, 1), (0, 1, 0))), "ratio"))
        self.refuses(NoTriangles(1), lower_upper, grid=led(Grid(((0, 0), (0, 1))), "rest 2"))
        grid = Grid(tuple(tuple(Ratio(int(i == j and i != 6)) for j in range(8)) for i in range(8)))
        self.refuses(NoTriangles(7), lower_upper, grid=grid)

    def test_in_an_order(self):
        for kind in FIELDS:
            for grid in self.grids(kind, "in an order"):
                order, lower, upper = ordered_triangles(grid)
                self.tells((order, lower, upper), ordered_triangles, grid=grid)
                self.same((order, lower, upper), plain_triangles(grid))
                self.same([is_lower(lower), is_upper(upper), has_ones(lower)], [True, True, True])
                self.same(led(exchange_grid(order), kind) * grid, lower * upper)
                product_of_ends = one(kind)
                for k in range(len(grid)):
                    product_of_ends = product_of_ends * upper[k, k]
                self.same(product_of_ends * order_sign(order), det(grid))

    def test_all_small_grids(self):
        for prime, size in ((2, 2), (2, 3), (3, 2)):
            for grid in all_grids(prime, size, size):
                self.tells(plain_triangles(grid), ordered_triangles, grid=grid)
                size_of_nought = first_nought_minor(grid)
                if size_of_nought is None:
                    self.tells(plain_triangles(grid)[1:], lower_upper, grid=grid)
                    self.same(plain_triangles(grid)[0], tuple(range(size)))
                else:
                    self.refuses(NoTriangles(size_of_nought), lower_upper, grid=grid)

    def test_orders_of_exchange_grids(self):
        for order in permutations(range(4)):
            grid = led(exchange_grid(order), "ratio")
            found, lower, upper = ordered_triangles(grid)
            self.same([order[k] for k in found], [0, 1, 2, 3])
            self.same([lower, upper], [one_grid("ratio", 4)] * 2)

    def test_where_nothing_is_left_at_a_place_the_first_row_is_chosen(self):
        grid = led(Grid(((0, 0, 1), (0, 2, 1), (0, 4, 1))), "ratio")
        order, lower, upper = ordered_triangles(grid)
        self.same(order, (0, 1, 2))
        self.same(lower, led(Grid(((1, 0, 0), (0, 1, 0), (0, 2, 1))), "ratio"))
        self.same(upper, led(Grid(((0, 0, 1), (0, 2, 1), (0, 0, -1))), "ratio"))
