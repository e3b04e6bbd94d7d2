"""The examples of the document, word for word, one after the other."""

import unittest

from gridwright import errors

NUMBERS = r'''
>>> from gridwright.ratios import Ratio, square_root
>>> from gridwright.rests import Rest, joined, order_of
>>> from gridwright.polys import Poly
>>> [(Ratio(2, 4) + 1).text, (3 - Ratio(1, 2)).text, Ratio(2, 1) == 2, Ratio(-7, 2).floor(), square_root(Ratio(9, 4)).text, (Rest(5, 7) * 3).number, Rest(3, 7).inverse().number, order_of(Rest(3, 7)), joined(Rest(1, 4), Rest(2, 3)).number]
['3/2', '5/2', False, -4, '3/2', 1, 5, 6, 5]
>>> p = Poly("ratio", (-1, 0, 1))
>>> [p.text, (p * 2).text, (p % Poly("ratio", (-1, 1))).degree, p.at(3).text, p.slope().text, p.put(Poly("ratio", (1, 1))).text]
['poly ratio: (-1/1,0/1,1/1)', 'poly ratio: (-2/1,0/1,2/1)', -1, '8/1', 'poly ratio: (0/1,2/1)', 'poly ratio: (0/1,2/1,1/1)']
>>> Ratio(1, 0)
raises InvalidNumber(given=0)
'''

POLYS = r'''
>>> from gridwright.dividing import bezout, common, divided, least_multiple, powers
>>> from gridwright.meeting import mixed, shares, through
>>> cube = Poly("ratio", (-1, 0, 0, 1))
>>> [divided(cube, p)[0].text, divided(cube, p)[1].text, common(cube, p).text, least_multiple(cube, p).text, through("ratio", ((0, 1), (1, 2), (2, 5))).text]
['poly ratio: (0/1,1/1)', 'poly ratio: (-1/1,1/1)', 'poly ratio: (-1/1,1/1)', 'poly ratio: (-1/1,-1/1,0/1,1/1,1/1)', 'poly ratio: (1/1,0/1,1/1)']
>>> found, parted_up = powers(Poly("rest 2", (1, 1, 0, 1, 1))), shares(Poly("ratio", (1,)), (Poly("ratio", (0, 1)), Poly("ratio", (-1, 1))))
>>> [found[0][0].text, found[0][1], found[1][0].text, found[1][1], parted_up[0].text, parted_up[1].text]
['poly rest 2: (1,1,1)', 1, 'poly rest 2: (1,1)', 2, 'poly ratio: (-1/1)', 'poly ratio: (1/1)']
'''


def steps(blocks):
    """Each line of code with the answer that stands below it, None if none does."""
    rows = [row for block in blocks for row in block.strip().split("\n")]
    for place, row in enumerate(rows):
        if row.startswith(">>> "):
            answer = rows[place + 1] if place + 1 < len(rows) else ">>> "
            yield row[4:], None if answer.startswith(">>> ") else answer


def answer_of(code, names):
    """What a line of code tells, in the words of the document."""
    try:
        return repr(eval(code, names))
    except (errors.WrongValue, errors.WrongName, errors.NoAnswer) as error:
        told = ", ".join(f"{name}={value!r}" for name, value in vars(error).items())
        return f"raises {type(error).__name__}({told})"


class Examples(unittest.TestCase):
    def test_each_line_tells_what_the_document_says(self):
        names, answers = {}, 0
        for code, answer in steps((NUMBERS, POLYS)):
            if answer is None:
                exec(code, names)
            else:
                self.assertEqual(answer_of(code, names), answer)
                answers += 1
        self.assertEqual(answers, 5)
