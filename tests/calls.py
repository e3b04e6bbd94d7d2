"""What the tests of all calls share: wrong values for each parameter, and how calls with them are looked at.

A table of calls has pairs of a function and of its parameters, each with a good value and with pairs of wrong ones and the
errors that they raise (none for what is told with "last" alone). A table of later errors has triples of a function,
arguments, and the error that they come to.
"""

from itertools import combinations

from gridwright import errors
from gridwright.columns import Column
from gridwright.grids import Grid, nought_grid
from gridwright.groups import Group
from gridwright.looks import Looks
from gridwright.polys import Poly
from gridwright.ratios import Ratio
from support import same
from test_conventions import DEEP, Claims, Refuses

ODD = (None, True, "x", [1], {"a": [2]}, DEEP, object(), Claims(), Refuses(), Grid, b"1", 10 ** 59)
A = Column((Ratio(1), 2))
G, OTHER = Grid(((Ratio(1), 2), (3, 5))), Grid(((Ratio(2), 1), (1, 1)))
W = Grid(((1, 2), (3, 5)))
WIDE = {"ratio": nought_grid("ratio", 2, 3), "whole": nought_grid("whole", 2, 3), "poly whole": nought_grid("poly whole", 2, 3)}


def given(name, *more):
    """Wrong values for a parameter with an error that has what was given."""
    return [(value, getattr(errors, name)(value)) for value in (*ODD, *more)]


def indexed(name, *more):
    """Wrong values for a parameter that is a tuple, with an error that has an index."""
    made = getattr(errors, name)
    wrong = [(value, made(None)) for value in (None, True, "x", [1], {}, (), object(), Claims(), Refuses(), 5)]
    return wrong + [((value,), made(0)) for value in ODD] + [(value, made(index)) for value, index in more]


GRID = given("NotAGrid", A, 1, ((1,),))
COLUMN = given("NotAColumn", G, 1, (1,))
COLUMNS = indexed("InvalidColumns", ((A, None), 1), ((A, Column((1, 2))), 1), ((A, A, Column((Ratio(1),))), 2), ((G,), 0))
KIND = given("InvalidKind", 1, "rest 1", "poly rest 4", ("ratio",))
SIDE = given("InvalidNumber", 0, 9, -1, Ratio(1))
INDEX = given("InvalidIndex", -1, 2, Ratio(0))
INDEXES = indexed("InvalidIndexes", ((0, 2), 1), ((0, -1), 1), ((2,), 0), ((0, True), 1))
PRIME = given("InvalidNumber", 0, 1, 4, 100, 101, -2)
WRONG_NUMBER = given("InvalidNumber", -1, 9)
POLY = given("NotAPoly", 1, Ratio(1), A)
GROUP = given("NotAGroup", G, 1, (2, 4))


def but(pairs, *values):
    """Pairs of wrong values and errors without those of values that are right there."""
    return [pair for pair in pairs if not any(same(pair[0], value) for value in values)]


def told(call, arguments):
    """The error that a call raises, or what it tells."""
    try:
        return call(**arguments)
    except (errors.WrongValue, errors.WrongName, errors.NoAnswer) as error:
        return error


def snapshot(value):
    """All that a value holds, throughout."""
    if isinstance(value, (tuple, list)):
        return [snapshot(part) for part in value]
    if isinstance(value, (Column, Grid, Ratio, Poly, Group, Looks)):
        return [(name, snapshot(part)) for name, part in vars(value).items()]
    return repr(value)


class CallTables:
    """What holds of all calls of two tables, which a test case has as CALLS and LATER."""

    def test_good_arguments_by_position_and_by_name(self):
        for call, parameters in self.CALLS:
            good = {name: value for name, (value, _) in parameters.items()}
            before = snapshot(list(good.values()))
            first = call(**good)
            self.same(call(*good.values()), first)
            self.same(call(**dict(reversed(list(good.items())))), first)
            self.same(snapshot(list(good.values())), before)

    def test_each_wrong_argument_alone(self):
        for call, parameters in self.CALLS:
            good = {name: value for name, (value, _) in parameters.items()}
            for name, (_, wrong) in parameters.items():
                for value, error in wrong:
                    self.found(call, {**good, name: value}, error, value)

    def test_the_first_wrong_argument_is_told(self):
        for call, parameters in self.CALLS:
            good = {name: value for name, (value, _) in parameters.items()}
            for first, second in combinations(parameters, 2):
                for value, error in parameters[first][1]:
                    for other, _ in parameters[second][1][::3]:
                        self.found(call, {**good, first: value, second: other}, error, value)
            worst = {name: wrong[0][0] if wrong else value for name, (value, wrong) in parameters.items()}
            self.found(call, worst, next(iter(parameters.values()))[1][0][1], next(iter(worst.values())))

    def test_wrong_arguments_come_ahead_of_what_is_told_of_several_or_last(self):
        tables = dict(self.CALLS)
        for call, arguments, error in self.LATER:
            self.found(call, arguments, error, None)
            for name in arguments:
                for value, expected in tables[call][name][1]:
                    # These are wrong whatever the other arguments are.
                    if any(value is odd for odd in ODD):
                        self.found(call, {**arguments, name: value}, expected, value)

    def found(self, call, arguments, error, value):
        raised = told(call, arguments)
        self.assertIs(type(raised), type(error), (call.__name__, list(arguments)))
        self.assertEqual(list(vars(raised)), list(vars(error)), call.__name__)
        for name, expected in vars(error).items():
            if name == "given" and value is not None:
                self.assertIs(raised.given, value, call.__name__)
            else:
                self.same(getattr(raised, name), expected)
