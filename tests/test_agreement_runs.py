"""What functions about chains, runs and looks tell must be the same as what those ahead of them tell."""

from itertools import product

from drawn import FIELDS, all_grids, chains_of_polys, drawn_column, drawn_grid, drawn_number, lot, plain_blocks, turned_around
from gridwright.chains import chain_count, chain_form
from gridwright.classes import alike_number, round_number
from gridwright.columns import dot, unit_column
from gridwright.commuting import commuting_number, is_lone, poly_for
from gridwright.dividing import bare, power_by
from gridwright.farruns import far, rule_round, step_rule
from gridwright.followers import block_form, core_polys, follower
from gridwright.grids import one_grid, trace
from gridwright.kinds import nought
from gridwright.leading import led
from gridwright.leaning import leaning_grid, mate
from gridwright.letters import own_poly, poly_at
from gridwright.lifting import turnings_number
from gridwright.looks import Looks, fitting, fitting_number, looks_left, sure
from gridwright.polys import Poly
from gridwright.rounds import column_poly, least_poly
from gridwright.runs import least_rule, reach, run_table
from gridwright.sides import inverse, is_turning
from gridwright.solving import solution, solutions_number
from gridwright.stairs import rank, rank_number, rank_parts
from gridwright.standing import diagonal_turning, standing_base, standing_numbers
from support import Told

FAR = 10 ** 30


def some_squares(kind, source):
    for size in (1, 2, 3, 4):
        yield drawn_grid(kind, size, size, source)
        for polys in list(chains_of_polys(kind, size))[::2]:
            yield turned_around(plain_blocks(polys), source)


class RunsAndGrids(Told):
    def test_runs_that_a_grid_makes(self):
        # What a row makes of a column, led on again and again by a grid, keeps the column's least poly as a rule.
        for kind in FIELDS:
            source = lot(f"runs of grids {kind}")
            for grid in some_squares(kind, source):
                size = len(grid)
                row, column = drawn_column(kind, size, source), drawn_column(kind, size, source)
                numbers, place = [], column
                for _ in range(2 * size + 2):
                    numbers.append(dot(row, place))
                    place = grid * place
                rule = least_rule(kind, tuple(numbers))
                for poly in (column_poly(grid, column), least_poly(grid), own_poly(grid)):
                    self.same(poly % rule, rule - rule)
                self.same(reach(kind, tuple(numbers)), rank(run_table(kind, tuple(numbers[:2 * size + 1]), size + 1)))

    def test_the_least_rule_and_its_follower(self):
        for kind in FIELDS:
            source = lot(f"rules and followers {kind}")
            for degree in (1, 2, 3):
                run = (0,) * (degree - 1) + (1,)
                rule = Poly(kind, (*[drawn_number(kind, source) for _ in range(degree)], 1))
                numbers = tuple(far(kind, run, rule, k) for k in range(2 * degree))
                self.same(least_rule(kind, numbers), least_poly(follower(rule)))
                self.same(rank(run_table(kind, numbers[:2 * degree - 1], degree)), degree)

    def test_powers_far_on(self):
        for kind in ("rest 2", "rest 3", "rest 97", "rest 999983"):
            source = lot(f"powers far on {kind}")
            for grid in some_squares(kind, source):
                own = own_poly(grid)
                power = grid ** FAR
                self.same(power, poly_at(power_by(Poly(kind, (0, 1)), FAR, own), grid))
                self.same(power, poly_at(power_by(Poly(kind, (0, 1)), FAR, least_poly(grid)), grid))
                traces, place = [], grid ** 0
                for _ in range(len(grid)):
                    traces.append(trace(place))
                    place = place * grid
                self.same(trace(power), far(kind, tuple(traces), own, FAR))

    def test_steps(self):
        for kind in FIELDS:
            source = lot(f"steps of followers {kind}")
            for degree, step in product((1, 2, 4), (1, 2, 5)):
                rule = Poly(kind, (*[drawn_number(kind, source) for _ in range(degree)], 1))
                self.same(step_rule(rule, step), own_poly(follower(rule) ** step))

    def test_rounds(self):
        for kind in ("rest 2", "rest 3", "rest 5"):
            for grid in some_squares(kind, lot(f"rounds of grids {kind}")):
                if is_turning(grid):
                    self.same(round_number(grid), rule_round(least_poly(grid)))
                    self.same(grid ** (round_number(grid) - 1), inverse(grid))


class Forms(Told):
    def test_chains_blocks_and_standing_numbers(self):
        for kind in ("ratio", "rest 2", "rest 3", "rest 97"):
            source = lot(f"forms {kind}")
            for grid in some_squares(kind, source):
                numbers = standing_numbers(grid)
                self.same([chain_count(grid, number, 1) for number in numbers], [len(standing_base(grid, number)) for number in numbers])
                form = chain_form(grid)
                if form is not None:
                    self.same([block_form(form), own_poly(form)], [block_form(grid), own_poly(grid)])
                    self.same(diagonal_turning(grid) is not None, bare(least_poly(grid)) == least_poly(grid))
                # A number that stands has as many chains as core polys at which it is nought.
                for number in numbers:
                    self.same(chain_count(grid, number, 1), sum(not poly.at(number) for poly in core_polys(grid)))
                self.same([is_lone(grid), commuting_number(grid) == len(grid)], [least_poly(grid) == own_poly(grid)] * 2)
                self.same(poly_for(grid, poly_at(own_poly(grid), grid)), Poly(kind, ()))
                if is_turning(grid):
                    self.same(poly_at(poly_for(grid, inverse(grid)), grid) * grid, one_grid(kind, len(grid)))

    def test_turning_grids_and_grids_alike(self):
        for prime, size in ((2, 2), (3, 2), (2, 3)):
            kind = f"rest {prime}"
            forms = {block_form(grid).text: grid for grid in all_grids(prime, size, size)}
            turning = sum(alike_number(grid) for grid in forms.values() if is_turning(grid))
            self.same(turning, turnings_number(size, prime))
            self.same(sum(alike_number(grid) for grid in forms.values() if rank(grid) == 1), rank_number(size, size, 1, prime))
            self.same(alike_number(one_grid(kind, size)), 1)


class Hidden(Told):
    def test_looks_are_equations(self):
        # One look at a hidden grid of one row is one equation for its numbers.
        for kind in FIELDS:
            source = lot(f"looks as equations {kind}")
            for height, width in ((2, 3), (3, 3), (4, 2)):
                grid = drawn_grid(kind, height, width, source)
                column = drawn_column(kind, height, source)
                looks = Looks(kind, (1, width), tuple((grid.row(k), unit_column(kind, 1, 0) * column.entry(k)) for k in range(height)))
                found, expected = fitting(looks), solution(grid, column)
                self.same(found is None, expected is None)
                if found is not None:
                    self.same(grid * found.row(0), column)
                    self.same(looks_left(looks), width - rank(grid))
                    if kind != "ratio":
                        many = sum(fitting_number(looks, k) for k in (0, 1))
                        self.same(many, solutions_number(grid, column))

    def test_the_number_of_grids_of_a_rank(self):
        for prime, shape in ((2, (2, 3)), (3, (3, 3)), (97, (8, 5))):
            looks = Looks(f"rest {prime}", shape, ())
            self.same([fitting_number(looks, k) for k in range(9)], [rank_number(*shape, k, prime) for k in range(9)])

    def test_what_is_sure_of_a_grid_that_was_seen_wholly(self):
        for kind in FIELDS:
            source = lot(f"seen wholly {kind}")
            grid = drawn_grid(kind, 3, 2, source)
            looks = Looks(kind, (3, 2), tuple((unit_column(kind, 2, k), grid.columns[k]) for k in range(2)))
            column = drawn_column(kind, 2, source)
            self.same([sure(looks, column), fitting(looks)], [grid * column, grid])


class Near(Told):
    def test_mates_and_rank_parts(self):
        source = lot("mates and parts")
        for height, width in ((2, 3), (3, 3), (4, 2)):
            grid = drawn_grid("ratio", height, width, source)
            if grid:
                columns, rows = rank_parts(grid)
                self.same(mate(grid), mate(rows) * mate(columns))
                self.same([rank(mate(grid)), leaning_grid(grid)], [rank(grid), leaning_grid(columns)])
                self.same(led(grid, "ratio"), grid)
                self.same(nought("ratio") == trace(leaning_grid(grid)) - rank(grid), True)
