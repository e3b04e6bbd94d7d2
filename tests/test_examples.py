"""The examples of the document, word for word, one after the other."""

import unittest

from gridwright import errors

NUMBERS = r'''
>>> from gridwright.ratios import Ratio, square_root
>>> from gridwright.rests import Rest, joined, order_of
>>> from gridwright.polys import Poly
>>> [(Ratio(2, 4) + 1).text, (3 - Ratio(1, 2)).text, Ratio(2, 1) == 2, Ratio(-7, 2).floor(), square_root(Ratio(9, 4)).text, (Rest(5, 7) * 3).number, Rest(3, 7).inverse().number, order_of(Rest(3, 7)), joined(Rest(1, 4), Rest(2, 3)).number]
['3/2', '5/2', False, -4, '3/2', 1, 5, 6, 5]
>>> p = Poly("ratio", (-1, 0, 1))
>>> [p.text, (p * 2).text, (p % Poly("ratio", (-1, 1))).degree, p.at(3).text, p.slope().text, p.put(Poly("ratio", (1, 1))).text]
['poly ratio: (-1/1,0/1,1/1)', 'poly ratio: (-2/1,0/1,2/1)', -1, '8/1', 'poly ratio: (0/1,2/1)', 'poly ratio: (0/1,2/1,1/1)']
>>> Ratio(1, 0)
raises InvalidNumber(given=0)
'''

POLYS = r'''
>>> from gridwright.dividing import bezout, common, divided, least_multiple, powers
>>> from gridwright.meeting import mixed, shares, through
>>> cube = Poly("ratio", (-1, 0, 0, 1))
>>> [divided(cube, p)[0].text, divided(cube, p)[1].text, common(cube, p).text, least_multiple(cube, p).text, through("ratio", ((0, 1), (1, 2), (2, 5))).text]
['poly ratio: (0/1,1/1)', 'poly ratio: (-1/1,1/1)', 'poly ratio: (-1/1,1/1)', 'poly ratio: (-1/1,-1/1,0/1,1/1,1/1)', 'poly ratio: (1/1,0/1,1/1)']
>>> found, parted_up = powers(Poly("rest 2", (1, 1, 0, 1, 1))), shares(Poly("ratio", (1,)), (Poly("ratio", (0, 1)), Poly("ratio", (-1, 1))))
>>> [found[0][0].text, found[0][1], found[1][0].text, found[1][1], parted_up[0].text, parted_up[1].text]
['poly rest 2: (1,1,1)', 1, 'poly rest 2: (1,1)', 2, 'poly ratio: (-1/1)', 'poly ratio: (1/1)']
'''

GRIDS = r'''
>>> from gridwright.columns import Column, dot
>>> from gridwright.grids import Grid, exchange_grid, trace
>>> from gridwright.leading import led, to_whole
>>> from gridwright.blocks import crossed, pile
>>> g = Grid(((2, 1), (4, 5)))
>>> [(g * g).rows, (g * Column((1, 1))).entries, g[1, 0], trace(g), g.turned.text, (g ** 0).rows, exchange_grid((1, 0)).rows, dot(g.row(0), g.row(1))]
[((8, 7), (28, 29)), (3, 9), 4, 7, 'grid whole: 2 4; 1 5', ((1, 0), (0, 1)), ((0, 1), (1, 0)), 13]
>>> [led(g, "rest 3").text, Grid(((Ratio(1, 2), 2),)).text, to_whole(Grid(((Ratio(1, 2), 2),)))[1].rows, pile(g).entries, crossed(Grid(((1, 2),)), g).rows]
['grid rest 3: 2 1; 1 2', 'grid ratio: 1/2 2/1', ((1, 4),), (2, 4, 1, 5), ((2, 1, 4, 2), (4, 5, 8, 10))]
>>> g + Grid(((1, 2),))
raises InvalidShape(shape=(2, 2), other=(1, 2))
'''

DETERMINANTS = r'''
>>> from gridwright.dets import det, det_rests, det_tables, det_walk, from_rests
>>> from gridwright.minors import leading_minors, minors, near_minors
>>> from gridwright.sides import cramer, inverse, is_turning, side_grid
>>> h = Grid(((1, 2, 3), (4, 5, 6), (7, 8, 10)))
>>> [det(g), side_grid(g).rows, (cramer(g, Column((1, 1)))[1]).entries, det(h), det_tables(h)[1].rows, det_tables(h)[2].rows, near_minors(h, 2), leading_minors(h), det_rests(h)]
[6, ((5, -1), (-4, 2)), (4, -2), -3, ((-3, -6), (-6, -11)), ((-3,),), ((-3, -3), (-3, 2)), (1, -3, -3), ((2, 1), (3, 0), (5, 2), (7, 4), (11, 8), (13, 10))]
>>> [inverse(led(Grid(((1, 2), (3, 5))), "rest 6")).text, is_turning(g), from_rests(((2, 1), (3, 0), (5, 2)), 14), det_walk(g)[1].rows]
['grid rest 6: 1 2; 3 5', False, -3, ((-6, 0), (0, 0))]
'''

# Of the lines that stand in that section these are the parts that ask stairs and spans.
STAIRS = r'''
>>> from gridwright.stairs import free_places, rank, rank_number, rank_parts, span_at, span_number, stair_form, stair_turning
>>> from gridwright.spans import base_of, in_span, meet_base, relation
>>> a = led(Grid(((1, 2, 3), (2, 4, 7))), "ratio")
>>> [stair_form(a).text, free_places(a), rank(a), stair_turning(a).text]
['grid ratio: 1/1 2/1 0/1; 0/1 0/1 1/1', (1,), 2, 'grid ratio: 7/1 -3/1; -2/1 1/1']
>>> [rank_number(2, 2, 1, 2), span_number(3, 1, 2), span_at(2, 1, 2, 1)[0].text]
[9, 7, 'column rest 2: 1 1']
'''


def steps(blocks):
    """Each line of code with the answer that stands below it, None if none does."""
    rows = [row for block in blocks for row in block.strip().split("\n")]
    for place, row in enumerate(rows):
        if row.startswith(">>> "):
            answer = rows[place + 1] if place + 1 < len(rows) else ">>> "
            yield row[4:], None if answer.startswith(">>> ") else answer


def answer_of(code, names):
    """What a line of code tells, in the words of the document."""
    try:
        return repr(eval(code, names))
    except (errors.WrongValue, errors.WrongName, errors.NoAnswer) as error:
        told = ", ".join(f"{name}={value!r}" for name, value in vars(error).items())
        return f"raises {type(error).__name__}({told})"


class Examples(unittest.TestCase):
    def test_each_line_tells_what_the_document_says(self):
        names, answers = {}, 0
        for code, answer in steps((NUMBERS, POLYS, GRIDS, DETERMINANTS, STAIRS)):
            if answer is None:
                exec(code, names)
            else:
                self.assertEqual(answer_of(code, names), answer)
                answers += 1
        self.assertEqual(answers, 12)
