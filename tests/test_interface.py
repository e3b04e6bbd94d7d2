"""The names, the arguments and the places of the interface."""

import inspect
import unittest
from importlib import import_module

from gridwright.benches import Bench
from gridwright.columns import Column
from gridwright.consoles import Console
from gridwright.grids import Grid
from gridwright.groups import Group
from gridwright.looks import Looks
from gridwright.polys import Poly
from gridwright.ratios import Ratio
from gridwright.rests import Rest
from gridwright.shelves import Shelf

FUNCTIONS = {
    "ratios": ("square_root(number)",),
    "rests": ("order_of(number)", "joined(one, other)"),
    "kinds": (
        "kind_of(number)", "is_kind(value)", "is_field(value)", "nought(kind)", "one(kind)", "number_of(kind, whole)",
        "written(number)", "read_number(kind, text)", "is_unit(number)", "unit_inverse(number)",
    ),
    "dividing": (
        "divided(poly, other)", "common(poly, other)", "bezout(poly, other)", "least_multiple(poly, other)",
        "are_clear(poly, other)", "inverse_by(poly, modulus)", "power_by(poly, exponent, modulus)", "content(poly)",
        "primitive(poly)", "bare(poly)", "powers(poly)",
    ),
    "meeting": (
        "through(kind, points)", "mixed(poly, left, other, right)", "disagreement(poly, left, other, right)",
        "shares(poly, bottoms)",
    ),
    "columns": ("dot(column, other)", "unit_column(kind, size, index)"),
    "grids": (
        "one_grid(kind, size)", "nought_grid(kind, height, width)", "diagonal_grid(kind, entries)", "from_columns(columns)",
        "from_rows(columns)", "exchange_grid(order)", "order_sign(order)", "trace(grid)", "is_upper(grid)",
        "is_lower(grid)", "is_diagonal(grid)", "is_even(grid)",
    ),
    "leading": ("led(value, kind)", "to_whole(value)"),
    "blocks": (
        "beside(grid, other)", "below(grid, other)", "put_blocks(grids)", "crossed(grid, other)", "pile(grid)",
        "piece(grid, rows, places)", "unpiled(column, height)",
    ),
    "dets": (
        "det(grid)", "det_by_orders(grid)", "det_along(grid, index)", "det_walk(grid)", "det_tables(grid)",
        "det_bound(grid)", "det_rests(grid)", "from_rests(pairs, bound)",
    ),
    "minors": (
        "minor(grid, rows, places)", "minors(grid, size)", "leading_minors(grid)", "near_minors(grid, size)",
        "minor_rank(grid)",
    ),
    "sides": (
        "side_grid(grid)", "cramer(grid, column)", "is_turning(grid)", "inverse(grid)", "rest_block(grid, size)",
    ),
    "stairs": (
        "stair_form(grid)", "step_places(grid)", "free_places(grid)", "rank(grid)", "stair_turning(grid)",
        "rank_parts(grid)", "both_turnings(grid)", "row_turning(grid, other)", "rank_number(height, width, rank, prime)",
        "span_number(size, dimension, prime)", "span_at(size, dimension, prime, index)",
    ),
    "spans": (
        "base_of(columns)", "is_free(columns)", "in_span(columns, column)", "relation(columns)", "chosen(columns)",
        "sum_base(columns, others)", "meet_base(columns, others)", "bar_base(columns)",
    ),
    "solving": (
        "nought_base(grid)", "solution(grid, column)", "bar(grid, column)", "solutions_number(grid, column)",
        "solution_at(grid, column, index)", "solve_grid(grid, other)",
    ),
    "halves": (
        "left_inverse(grid)", "right_inverse(grid)", "inner_inverse(grid)", "lower_upper(grid)", "ordered_triangles(grid)",
    ),
    "resultants": ("table_of(poly, other)", "resultant(poly, other)", "gap(poly)"),
    "singles": (
        "singles(poly)", "count_singles(poly)", "is_single(poly)", "keeping_grid(poly)", "number_of_singles(prime, degree)",
        "roots_of(poly)",
    ),
    "stretches": (
        "ratio_roots(poly)", "signs_row(poly)", "count_real(poly, low, high)", "stretches(poly)",
        "narrowed(poly, low, high, width)",
    ),
    "wholestairs": ("whole_stair(grid)", "whole_turning(grid)", "is_whole_stair(grid)", "whole_rank(grid)"),
    "lattices": (
        "plain_base(grid)", "same_lattice(grid, other)", "lies_within(grid, other)", "member_by(grid, column)",
        "member_bar(grid, column)", "plain_member(grid, column)", "lattice_sum(grid, other)", "lattice_meet(grid, other)",
        "filled(grid)", "is_filled(grid)", "lattice_index(grid, other)", "common_minor(grid, size)", "completed(grid)",
    ),
    "wholesolving": ("whole_solution(grid, column)", "whole_bar(grid, column)", "whole_noughts(grid)"),
    "sublattices": ("lattices_number(size, index)", "lattice_at(size, index, place)", "place_of_lattice(grid)"),
    "cores": (
        "core_numbers(grid)", "core_grid(grid)", "core_turnings(grid)", "are_led(grid, other)", "parting_size(grid, other)",
    ),
    "groups": (
        "are_alike(group, other)", "members(group)", "count_of_order(group, order)", "leads_number(group, other)",
        "makers(group)", "group_sum(group, other)", "without(group, column)",
    ),
    "restsolving": (
        "rest_cores(grid)", "are_rest_led(grid, other)", "rest_solutions(grid, column)", "first_rest_solution(grid, column)",
        "all_rest_solutions(grid, column)", "rest_bar(grid, column)",
    ),
    "lifting": (
        "parted(grid)", "put_together(grids)", "lifted_inverse(grid, prime, power)", "turnings_number(size, modulus)",
        "turning_at(size, prime, index)",
    ),
    "letters": (
        "letter_grid(grid)", "poly_at(poly, grid)", "poly_on(poly, grid, column)", "own_poly(grid)", "diagonal_sums(grid)",
    ),
    "rounds": (
        "column_poly(grid, column)", "round_of(grid, column)", "least_poly(grid)", "full_column(grid)",
        "kept_base(grid, columns)", "is_kept(grid, columns)",
    ),
    "followers": (
        "follower(poly)", "follower_blocks(polys)", "core_polys(grid)", "block_form(grid)", "block_turning(grid)",
    ),
    "similar": (
        "is_alike(grid, other)", "leading_grid(grid, other)", "telling_poly(grid, other)", "poly_rank(poly, grid)",
    ),
    "standing": ("standing_numbers(grid)", "standing_base(grid, number)", "diagonal_turning(grid)"),
    "chains": (
        "chain_grid(kind, number, size)", "chain_form(grid)", "chain_turning(grid)", "chain_count(grid, number, size)",
    ),
    "commuting": (
        "commutes(grid, other)", "commuting_number(grid)", "commuting_base(grid)", "is_lone(grid)", "poly_for(grid, other)",
        "both_commuting(grid, other)",
    ),
    "classes": ("round_number(grid)", "class_number(prime, size)", "alike_number(grid)"),
    "runs": (
        "is_rule(kind, run, rule)", "reach(kind, run)", "least_rule(kind, run)", "is_only(kind, run)",
        "rule_of(kind, run, size)", "run_bar(kind, run, size)", "run_table(kind, run, height)",
        "gone_on(kind, run, rule, many)",
    ),
    "farruns": (
        "far(kind, run, rule, index)", "sum_rule(poly, other)", "product_rule(poly, other)", "step_rule(poly, step)",
        "rule_round(poly)",
    ),
    "leaning": (
        "length(column)", "product_grid(grid)", "across(grid)", "nearest(grid, column)", "distance(grid, column)",
        "closest(grid, column)", "leaning_grid(grid)", "is_leaning(grid)", "square_parts(grid)", "mate(grid)",
        "nearest_poly(points, degree)",
    ),
    "looks": (
        "quarrel(looks)", "fitting(looks)", "fits(looks, grid)", "sure(looks, column)", "sure_places(looks)",
        "looks_left(looks)", "free_numbers(looks)", "ranks(looks)", "fitting_number(looks, rank)", "even_fitting(looks)",
        "even_sure(looks, row, column)",
    ),
    "places": (
        "ring_quarrel(kind, shape, places)", "plain_grid(kind, shape, places)", "lots(kind, shape, places)",
        "placed(kind, shape, places, i, j)", "plain_number(kind, shape, places)",
    ),
    "deeds": (
        "is_deed(kind, size, value)", "done(grid, deed)", "done_at_columns(grid, deed)", "way_back(kind, deed)",
        "turning_of(kind, size, deeds)", "deeds_of(grid)",
    ),
    "logs": ("played(grid, mode, log)", "way_home(kind, log)", "drawn_together(kind, log)"),
    "wishes": ("is_wish(value)", "names_in(wish)", "holds(wish, pairs)"),
    "checker": ("accepts(claim, paper)",),
    "certificates": (
        "certify_turning(grid)", "certify_rank(grid)", "certify_stairs(grid)", "certify_whole_stairs(grid)",
        "certify_cores(grid)", "certify_blocks(grid)", "certify_alike(grid, other)", "certify_least(grid)",
        "certify_solution(grid, column)", "certify_member(grid, column)", "certify_rows(grid, other)",
        "certify_determinant(grid)", "certify_common(poly, other)", "certify_single(poly)", "certify_least_rule(kind, run)",
        "certify_nearest(grid, column)", "certify_mate(grid)", "certify_look(looks, column)",
    ),
}
SIGNS = "__add__ __radd__ __sub__ __rsub__ __mul__ __rmul__ __neg__ __pow__ __eq__ __bool__"
CLASSES = {
    Ratio: (Ratio(1, 2), "ratios", "(top, bottom=1)", "top bottom is_whole text", SIGNS + " __abs__",
            ("power(exponent)", "inverse()", "floor()", "is_below(other)")),
    Rest: (Rest(1, 2), "rests", "(number, modulus)", "number modulus is_unit text", SIGNS, ("power(exponent)", "inverse()")),
    Poly: (Poly("whole", ()), "polys", "(kind, coefficients)", "kind coefficients degree lead text", SIGNS + " __floordiv__ __mod__",
           ("power(exponent)", "at(number)", "slope()", "monic()", "put(other)")),
    Column: (Column((1, 2)), "columns", "(entries)", "entries kind text",
             "__add__ __sub__ __mul__ __rmul__ __neg__ __eq__ __bool__ __len__", ("entry(index)",)),
    Grid: (Grid(((1, 2),)), "grids", "(rows)", "rows kind shape columns is_square turned text",
           "__add__ __sub__ __mul__ __rmul__ __neg__ __pow__ __eq__ __bool__ __len__ __getitem__", ("power(exponent)", "row(index)")),
    Group: (Group(Grid(((2, 4),))), "groups", "(relations)", "relations width sizes number prime_sizes text", "__eq__",
            ("plain(column)", "order_of(column)")),
    Looks: (Looks("ratio", (1, 2), ()), "looks", "(kind, shape, pairs)", "kind shape pairs", "__eq__", ("saw(x, y)",)),
    Bench: (Bench(Grid(((1,),)), "rows"), "benches", "(grid, mode)",
            "start now mode left left_inverse right right_inverse log", "__eq__ __bool__ __len__",
            ("do(deed)", "undo()", "is_goal()", "ways()", "finish()", "trial()", "tried(action)")),
    Shelf: (Shelf(), "shelves", "()", "names wishes changes", "__eq__ __bool__ __len__ __contains__",
            ("put(name, grid)", "put_all(pairs)", "named(name)", "drop(name)", "wish(wish)", "lift(index)", "undo()", "trial()",
             "tried(action)")),
    Console: (Console(Bench(Grid(((1,),)), "rows")), "consoles", "(bench)", "bench", "__eq__", ("say(line)",)),
}
ORDER = ("limits", "errors", "ratios", "rests", "polys", "kinds", "dividing", "meeting", "columns", "grids", "leading",
         "blocks", "dets", "minors", "sides", "stairs", "spans", "solving", "halves", "resultants", "singles", "stretches",
         "wholestairs", "lattices", "wholesolving", "sublattices", "cores", "groups", "restsolving", "lifting", "letters",
         "rounds", "followers", "similar", "standing", "chains", "commuting", "classes", "runs", "farruns", "leaning",
         "looks", "places", "deeds", "benches", "logs", "wishes", "shelves", "checker", "certificates", "consoles")


class Interface(unittest.TestCase):
    def test_functions_and_their_arguments(self):
        for file, told in FUNCTIONS.items():
            module = import_module(f"gridwright.{file}")
            for row in told:
                name = row.partition("(")[0]
                function = getattr(module, name)
                self.assertTrue(inspect.isfunction(function), row)
                self.assertEqual(name + str(inspect.signature(function)), row)
                self.assertEqual(function.__module__, f"gridwright.{file}")
                self.assertEqual(function.__name__, name)

    def test_classes_with_all_their_own_methods_and_properties(self):
        for one, (made, file, arguments, properties, signs, methods) in CLASSES.items():
            self.assertEqual(one.__module__, f"gridwright.{file}")
            self.assertEqual(str(inspect.signature(one)), arguments)
            own = vars(one)
            for name in properties.split():
                self.assertFalse(callable(getattr(made, name)), name)
            for name in signs.split():
                self.assertTrue(inspect.isfunction(own[name]), name)
            for row in methods:
                name, _, inner = row.partition("(")
                names = ["self", *[part for part in inner[:-1].split(", ") if part]]
                self.assertEqual(list(inspect.signature(own[name]).parameters), names)

    def test_read_is_a_static_method(self):
        for one in (Ratio, Poly, Column, Grid):
            self.assertIsInstance(vars(one)["read"], staticmethod)
            self.assertEqual(str(inspect.signature(one.read)), "(text)")

    def test_parameters_are_given_by_position_or_by_name(self):
        plain = inspect.Parameter.POSITIONAL_OR_KEYWORD
        for file, told in FUNCTIONS.items():
            for row in told:
                function = getattr(import_module(f"gridwright.{file}"), row.partition("(")[0])
                for parameter in inspect.signature(function).parameters.values():
                    self.assertEqual(parameter.kind, plain, row)

    def test_a_module_needs_only_those_listed_ahead_of_it(self):
        for place, file in enumerate(ORDER):
            needed = needs(file, set())
            self.assertLessEqual(needed & set(ORDER), set(ORDER[:place]), file)


def needs(file, found):
    """The names of all modules that a module imports, also over others."""
    for row in inspect.getsource(import_module(f"gridwright.{file}")).split("\n"):
        if row.startswith("from gridwright."):
            name = row.split()[1].partition(".")[2]
            if name not in found:
                found.add(name)
                needs(name, found)
    return found
