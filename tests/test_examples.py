"""The examples of the document, word for word, one after the other."""

import unittest

from gridwright import errors

NUMBERS = r'''
>>> from gridwright.ratios import Ratio, square_root
>>> from gridwright.rests import Rest, joined, order_of
>>> from gridwright.polys import Poly
>>> [(Ratio(2, 4) + 1).text, (3 - Ratio(1, 2)).text, Ratio(2, 1) == 2, Ratio(-7, 2).floor(), square_root(Ratio(9, 4)).text, (Rest(5, 7) * 3).number, Rest(3, 7).inverse().number, order_of(Rest(3, 7)), joined(Rest(1, 4), Rest(2, 3)).number]
['3/2', '5/2', False, -4, '3/2', 1, 5, 6, 5]
>>> p = Poly("ratio", (-1, 0, 1))
>>> [p.text, (p * 2).text, (p % Poly("ratio", (-1, 1))).degree, p.at(3).text, p.slope().text, p.put(Poly("ratio", (1, 1))).text]
['poly ratio: (-1/1,0/1,1/1)', 'poly ratio: (-2/1,0/1,2/1)', -1, '8/1', 'poly ratio: (0/1,2/1)', 'poly ratio: (0/1,2/1,1/1)']
>>> Ratio(1, 0)
raises InvalidNumber(given=0)
'''

POLYS = r'''
>>> from gridwright.dividing import bezout, common, divided, least_multiple, powers
>>> from gridwright.meeting import mixed, shares, through
>>> cube = Poly("ratio", (-1, 0, 0, 1))
>>> [divided(cube, p)[0].text, divided(cube, p)[1].text, common(cube, p).text, least_multiple(cube, p).text, through("ratio", ((0, 1), (1, 2), (2, 5))).text]
['poly ratio: (0/1,1/1)', 'poly ratio: (-1/1,1/1)', 'poly ratio: (-1/1,1/1)', 'poly ratio: (-1/1,-1/1,0/1,1/1,1/1)', 'poly ratio: (1/1,0/1,1/1)']
>>> found, parted_up = powers(Poly("rest 2", (1, 1, 0, 1, 1))), shares(Poly("ratio", (1,)), (Poly("ratio", (0, 1)), Poly("ratio", (-1, 1))))
>>> [found[0][0].text, found[0][1], found[1][0].text, found[1][1], parted_up[0].text, parted_up[1].text]
['poly rest 2: (1,1,1)', 1, 'poly rest 2: (1,1)', 2, 'poly ratio: (-1/1)', 'poly ratio: (1/1)']
'''

GRIDS = r'''
>>> from gridwright.columns import Column, dot
>>> from gridwright.grids import Grid, exchange_grid, trace
>>> from gridwright.leading import led, to_whole
>>> from gridwright.blocks import crossed, pile
>>> g = Grid(((2, 1), (4, 5)))
>>> [(g * g).rows, (g * Column((1, 1))).entries, g[1, 0], trace(g), g.turned.text, (g ** 0).rows, exchange_grid((1, 0)).rows, dot(g.row(0), g.row(1))]
[((8, 7), (28, 29)), (3, 9), 4, 7, 'grid whole: 2 4; 1 5', ((1, 0), (0, 1)), ((0, 1), (1, 0)), 13]
>>> [led(g, "rest 3").text, Grid(((Ratio(1, 2), 2),)).text, to_whole(Grid(((Ratio(1, 2), 2),)))[1].rows, pile(g).entries, crossed(Grid(((1, 2),)), g).rows]
['grid rest 3: 2 1; 1 2', 'grid ratio: 1/2 2/1', ((1, 4),), (2, 4, 1, 5), ((2, 1, 4, 2), (4, 5, 8, 10))]
>>> g + Grid(((1, 2),))
raises InvalidShape(shape=(2, 2), other=(1, 2))
'''

DETERMINANTS = r'''
>>> from gridwright.dets import det, det_rests, det_tables, det_walk, from_rests
>>> from gridwright.minors import leading_minors, minors, near_minors
>>> from gridwright.sides import cramer, inverse, is_turning, side_grid
>>> h = Grid(((1, 2, 3), (4, 5, 6), (7, 8, 10)))
>>> [det(g), side_grid(g).rows, (cramer(g, Column((1, 1)))[1]).entries, det(h), det_tables(h)[1].rows, det_tables(h)[2].rows, near_minors(h, 2), leading_minors(h), det_rests(h)]
[6, ((5, -1), (-4, 2)), (4, -2), -3, ((-3, -6), (-6, -11)), ((-3,),), ((-3, -3), (-3, 2)), (1, -3, -3), ((2, 1), (3, 0), (5, 2), (7, 4), (11, 8), (13, 10))]
>>> [inverse(led(Grid(((1, 2), (3, 5))), "rest 6")).text, is_turning(g), from_rests(((2, 1), (3, 0), (5, 2)), 14), det_walk(g)[1].rows]
['grid rest 6: 1 2; 3 5', False, -3, ((-6, 0), (0, 0))]
'''

STAIRS = r'''
>>> from gridwright.stairs import free_places, rank, rank_number, rank_parts, span_at, span_number, stair_form, stair_turning
>>> from gridwright.spans import base_of, in_span, meet_base, relation
>>> from gridwright.solving import bar, nought_base, solution, solution_at, solutions_number
>>> from gridwright.halves import lower_upper, ordered_triangles
>>> a = led(Grid(((1, 2, 3), (2, 4, 7))), "ratio")
>>> [stair_form(a).text, free_places(a), rank(a), stair_turning(a).text, nought_base(a)[0].text, solution(a, led(Column((1, 3)), "ratio")).text]
['grid ratio: 1/1 2/1 0/1; 0/1 0/1 1/1', (1,), 2, 'grid ratio: 7/1 -3/1; -2/1 1/1', 'column ratio: 1/1 -1/2 0/1', 'column ratio: -2/1 0/1 1/1']
>>> b = led(Grid(((1, 1), (1, 1))), "rest 2")
>>> [bar(b, led(Column((1, 0)), "rest 2")).text, solutions_number(b, led(Column((1, 1)), "rest 2")), solution_at(b, led(Column((1, 1)), "rest 2"), 1).text, rank_number(2, 2, 1, 2), span_number(3, 1, 2), span_at(2, 1, 2, 1)[0].text]
['column rest 2: 1 1', 2, 'column rest 2: 0 1', 9, 7, 'column rest 2: 1 1']
>>> [lower_upper(led(g, "ratio"))[0].text, lower_upper(led(g, "ratio"))[1].text]
['grid ratio: 1/1 0/1; 2/1 1/1', 'grid ratio: 2/1 1/1; 0/1 3/1']
>>> solution(g, Column((1, 1)))
raises NotAField(kind='whole')
'''

ROOTS = r'''
>>> from gridwright.resultants import gap, resultant, table_of
>>> from gridwright.singles import count_singles, number_of_singles, singles
>>> from gridwright.stretches import count_real, ratio_roots, signs_row
>>> q = Poly("ratio", (-2, 1))
>>> [table_of(p, q).text, resultant(p, q).text, gap(Poly("whole", (1, 3, 1))), number_of_singles(2, 4), count_real(Poly("ratio", (-2, 0, 1)), 0, 2), ratio_roots(p)[0][0].text, signs_row(Poly("ratio", (-2, 0, 1)))[1].text, signs_row(Poly("ratio", (-2, 0, 1)))[2].text]
['grid ratio: 1/1 0/1 -1/1; 1/1 -2/1 0/1; 0/1 1/1 -2/1', '3/1', 5, 3, 1, '-1/1', 'poly ratio: (0/1,2/1)', 'poly ratio: (2/1)']
>>> parts_by_2 = singles(Poly("rest 2", (1, 1, 0, 1, 1)))
>>> [parts_by_2[0][0].text, parts_by_2[0][1], parts_by_2[1][0].text, parts_by_2[1][1]]
['poly rest 2: (1,1)', 2, 'poly rest 2: (1,1,1)', 1]
'''

LATTICES = r'''
>>> from gridwright.wholestairs import whole_stair
>>> from gridwright.lattices import common_minor, completed, filled, lattice_index, lattice_meet, member_bar, member_by, plain_base
>>> from gridwright.wholesolving import whole_bar, whole_noughts, whole_solution
>>> from gridwright.sublattices import lattice_at, lattices_number
>>> w = Grid(((2, 0), (1, 3)))
>>> [whole_stair(w).rows, whole_stair(Grid(((4, 6), (6, 9)))).rows, member_by(w, Column((3, 3))).entries, member_by(w, Column((1, 0))), lattice_meet(Grid(((2, 0), (0, 1))), Grid(((1, 0), (0, 3))))[1].entries, lattice_index(w, Grid(((1, 0), (0, 1))))]
[((1, 3), (0, 6)), ((2, 3), (0, 0)), (1, 1), None, (0, 3), 6]
>>> [filled(Grid(((2, 4),)))[0].entries, completed(Grid(((2, 4),))), common_minor(w, 1), whole_solution(Grid(((2, 3),)), Column((1,))).entries, whole_noughts(Grid(((2, 3),)))[0].entries, whole_solution(Grid(((2, 4),)), Column((3,))), lattices_number(2, 6), lattice_at(2, 2, 0).rows, lattice_at(2, 2, 1).rows, lattice_at(2, 2, 2).rows]
[(1, 2), None, 1, (2, -1), (3, -2), None, 12, ((1, 0), (0, 2)), ((1, 1), (0, 2)), ((2, 0), (0, 1))]
'''

GROUPS = r'''
>>> from gridwright.cores import core_numbers
>>> from gridwright.groups import Group, count_of_order, leads_number, members
>>> from gridwright.restsolving import first_rest_solution, rest_bar, rest_cores, rest_solutions
>>> from gridwright.lifting import lifted_inverse, turnings_number
>>> r = Group(Grid(((2, 4), (6, 8))))
>>> [core_numbers(w), core_numbers(Grid(((2, 4), (6, 8)))), r.sizes, r.number, r.order_of(Column((1, 1))), count_of_order(r, 1), count_of_order(r, 2), count_of_order(r, 4), leads_number(r, Group(Grid(((4,),)))), Group(Grid(((2, 0, 0),))).text]
[(1, 6), (2, 4), (2, 4), 8, 4, 1, 3, 4, 8, '2 0 0']
>>> s = led(Grid(((2, 4), (6, 8))), "rest 12")
>>> [rest_cores(s), rest_solutions(s, led(Column((2, 2)), "rest 12")), first_rest_solution(s, led(Column((2, 2)), "rest 12")).text, rest_solutions(s, led(Column((1, 0)), "rest 12")), lifted_inverse(Grid(((1, 2), (3, 4))), 3, 2).rows, turnings_number(2, 4)]
[(2, 4), 8, 'column rest 12: 5 1', 0, ((7, 1), (6, 4)), 96]
'''

FORMS = r'''
>>> from gridwright.letters import letter_grid, own_poly, poly_at
>>> from gridwright.followers import block_form, core_polys, follower
>>> from gridwright.similar import is_alike, telling_poly
>>> from gridwright.chains import chain_form
>>> from gridwright.commuting import commuting_number, is_lone
>>> from gridwright.classes import alike_number, class_number, round_number
>>> c, two = led(Grid(((2, 1), (0, 2))), "ratio"), led(Grid(((2, 0), (0, 2))), "ratio")
>>> [own_poly(c).text, core_polys(two)[0].text, len(core_polys(two)), block_form(c).text, chain_form(c).text, commuting_number(c), commuting_number(two), is_lone(two), telling_poly(c, two).text]
['poly ratio: (4/1,-4/1,1/1)', 'poly ratio: (-2/1,1/1)', 2, 'grid ratio: 0/1 -4/1; 1/1 4/1', 'grid ratio: 2/1 0/1; 1/1 2/1', 2, 4, False, 'poly ratio: (-2/1,1/1)']
>>> f = led(Grid(((0, 1), (1, 0))), "rest 2")
>>> [round_number(f), class_number(2, 2), alike_number(f), chain_form(f).text, is_alike(f, led(Grid(((1, 1), (0, 1))), "rest 2")), own_poly(g).text]
[2, 6, 3, 'grid rest 2: 1 0; 1 1', True, 'poly whole: (6,-7,1)']
'''

RUNS = r'''
>>> from gridwright.runs import is_only, least_rule, reach, run_bar
>>> from gridwright.farruns import far, product_rule, rule_round
>>> from gridwright.leaning import closest, distance, leaning_grid, mate, nearest, nearest_poly, square_parts
>>> rabbits = least_rule("ratio", (1, 1, 2, 3, 5, 8))
>>> [rabbits.text, is_only("ratio", (1, 1, 2, 3, 5, 8)), reach("ratio", (0, 0, 1)), far("ratio", (0, 1), rabbits, 10).text, product_rule(rabbits, rabbits).text, rule_round(led(rabbits, "poly rest 3"))]
['poly ratio: (-1/1,-1/1,1/1)', True, 3, '55/1', 'poly ratio: (1/1,-1/1,-4/1,-1/1,1/1)', 8]
>>> m = Grid(((1, 0), (1, 1), (1, 2)))
>>> [closest(m, Column((0, 0, 3))).text, nearest(m, Column((0, 0, 3))).text, distance(m, Column((0, 0, 3))).text, square_parts(m)[0].text, square_parts(m)[1].text, mate(Grid(((1, 1), (0, 0)))).text, nearest_poly(((0, 0), (1, 0), (2, 3)), 1).text]
['column ratio: -1/2 3/2', 'column ratio: -1/2 1/1 5/2', '3/2', 'grid ratio: 1/1 -1/1; 1/1 0/1; 1/1 1/1', 'grid ratio: 1/1 1/1; 0/1 1/1', 'grid ratio: 1/2 0/1; 1/2 0/1', 'poly ratio: (-1/2,3/2)']
'''

LOOKS = r'''
>>> from gridwright.looks import Looks, fitting_number, ranks, sure
>>> from gridwright.places import lots, placed, plain_number, ring_quarrel
>>> told = Looks("rest 3", (2, 2), ((led(Column((1, 1)), "rest 3"), led(Column((0, 2)), "rest 3")),))
>>> [sure(told, led(Column((2, 2)), "rest 3")).text, sure(told, led(Column((1, 0)), "rest 3")), ranks(told), fitting_number(told, 0), fitting_number(told, 1), fitting_number(told, 2)]
['column rest 3: 0 1', None, (1, 2), 0, 3, 6]
>>> seen = ((0, 0, 2), (0, 1, 3), (1, 0, 4))
>>> [placed("ratio", (2, 2), seen, 1, 1).text, lots("ratio", (2, 3), seen), ring_quarrel("ratio", (2, 2), seen), plain_number("rest 5", (2, 3), seen)]
['6/1', (((), (2,)), ((0, 1), (0, 1))), None, 4]
'''

WORKING = r'''
>>> from gridwright.benches import Bench
>>> from gridwright.deeds import done, turning_of
>>> from gridwright.shelves import Shelf
>>> bench = Bench(Grid(((2, 4), (6, 8))), "both")
>>> bench.do(("add", 1, 0, -3))
>>> bench.do(("column", ("add", 1, 0, -2)))
>>> bench.do(("scale", 1, -1))
>>> [bench.now.rows, bench.left.rows, bench.right.rows, bench.is_goal(), bench.undo(), bench.now.rows, len(bench)]
[((2, 0), (0, 4)), ((1, 0), (3, -1)), ((1, -2), (0, 1)), True, None, ((2, 0), (0, -4)), 2]
>>> shelf = Shelf()
>>> shelf.put_all((("a", g), ("b", w), ("c", g * w)))
>>> shelf.wish(("product", "a", "b", "c"))
>>> shelf.wish(("determinant", "a", "6"))
>>> [shelf.names, shelf.changes, "a" in shelf, shelf.named("c").rows]
[('a', 'b', 'c'), 3, True, ((5, 3), (13, 15))]
>>> shelf.put("b", g)
raises Broken(index=0)
'''

CHECKS = r'''
>>> from gridwright.checker import accepts
>>> from gridwright.consoles import Console
>>> [accepts(("barred", "grid whole: 2 4; 6 8", "column whole: 2 1"), "column ratio: 0/1 1/2"), accepts(("not turning", "grid whole: 2 0; 0 1"), "column ratio: 1/2 0/1"), accepts(("rank", "grid ratio: 0/1", 0), ()), accepts(("mate", "grid ratio: 1/1 1/1; 0/1 0/1", "grid ratio: 1/2 0/1; 1/2 0/1"), ())]
[True, True, True, True]
>>> console = Console(Bench(led(Grid(((1, 1), (0, 2))), "ratio"), "turn"))
>>> [console.say("add 0 1 1/1"), console.say("now"), console.say("left"), console.say("deeds"), console.say("determinant"), console.say("undo"), console.say("now")]
['done', 'grid ratio: 1/1 2/1; 0/1 2/1', 'grid ratio: 1/1 1/1; 0/1 1/1', 'add 0 1 1/1', '2/1', 'done', 'grid ratio: 1/1 1/1; 0/1 2/1']
'''

BLOCKS = (
    NUMBERS, POLYS, GRIDS, DETERMINANTS, STAIRS, ROOTS, LATTICES, GROUPS, FORMS, RUNS,
    LOOKS, WORKING, CHECKS,
)


def steps(blocks):
    """Each line of code with the answer that stands below it, None if none does."""
    rows = [row for block in blocks for row in block.strip().split("\n")]
    for place, row in enumerate(rows):
        if row.startswith(">>> "):
            answer = rows[place + 1] if place + 1 < len(rows) else ">>> "
            yield row[4:], None if answer.startswith(">>> ") else answer


def answer_of(code, names):
    """What a line of code tells, in the words of the document."""
    try:
        return repr(eval(code, names))
    except (errors.WrongValue, errors.WrongName, errors.NoAnswer) as error:
        told = ", ".join(f"{name}={value!r}" for name, value in vars(error).items())
        return f"raises {type(error).__name__}({told})"


class Examples(unittest.TestCase):
    def test_each_line_tells_what_the_document_says(self):
        names, answers = {}, 0
        for code, answer in steps(BLOCKS):
            if answer is None:
                exec(code, names)
            else:
                self.assertEqual(answer_of(code, names), answer)
                answers += 1
        self.assertEqual(answers, 31)
