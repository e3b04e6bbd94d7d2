"""What holds of all values and calls alike: points [1], [3], [4], [5]."""

from itertools import product

from drawn import KINDS, drawn_column, drawn_grid, lot
from gridwright import dividing, errors, kinds, meeting
from gridwright.columns import Column
from gridwright.grids import Grid, nought_grid
from gridwright.groups import Group
from gridwright.polys import Poly
from gridwright.ratios import Ratio, square_root
from gridwright.rests import Rest, joined, order_of
from samples import COEFFICIENT_KINDS, OTHER_KINDS, numbers_of
from support import SPOILT, Told


class Claims:
    """Says of itself that it is equal to all."""

    def __eq__(self, other):
        return True


class Refuses:
    """Cannot be compared, and is neither true nor false."""

    def __eq__(self, other):
        raise RuntimeError

    def __bool__(self):
        raise RuntimeError


VALUES = [number for kind in COEFFICIENT_KINDS + OTHER_KINDS for number in numbers_of(kind)[::4]
          if not isinstance(number, int)]
TABLES = [make(kind, *sides, lot("conventions")) for kind in KINDS
          for make, sides in ((drawn_column, (1,)), (drawn_column, (3,)), (drawn_grid, (1, 1)), (drawn_grid, (2, 3)))]
DEEP = ((((((((((1,),),),),),),),),),)


class Comparing(Told):
    def test_equality_never_raises_and_unequal_is_its_opposite(self):
        others = [*SPOILT, DEEP, 0, 1, -1, 10 ** 60, Ratio, Poly, errors.Nought(), Claims, len]
        for value, other in product(VALUES, others):
            self.same([value == other, value != other, other == value, other != value], [False, True, False, True])

    def test_values_of_unlike_classes_and_kinds(self):
        for one, other in product(VALUES, VALUES):
            alike = kinds.kind_of(one) == kinds.kind_of(other) and kinds.written(one) == kinds.written(other)
            self.same([one == other, one != other], [alike, not alike])

    def test_columns_and_grids_are_equal_to_none_of_another_class(self):
        for value, other in product(VALUES, TABLES):
            self.same([value == other, other == value, value != other, other != value], [False, False, True, True])
        for value, other in product(TABLES, TABLES):
            alike = type(value) is type(other) and value.text == other.text
            self.same([value == other, value != other], [alike, not alike])
        self.same(Column((1, 2)) == Grid(((1,), (2,))), False)

    def test_groups_are_equal_to_none_of_another_class(self):
        group = Group(Grid(((2, 4), (6, 8))))
        for other in [*SPOILT, *VALUES, *TABLES, DEEP, 8, "2 4", Group]:
            self.same([group == other, other == group, group != other, other != group], [False, False, True, True])
        self.same([bool(group), bool(Group(Grid(((1,),))))], [True, True])

    def test_other_values_are_not_asked(self):
        for value in [*VALUES, *TABLES, Group(Grid(((2, 4), (6, 8))))]:
            self.same([value == Claims(), value != Claims()], [False, True])
            self.same([value == Refuses(), value != Refuses()], [False, True])

    def test_values_that_cannot_be_compared_may_be_passed(self):
        for value in (Claims(), Refuses()):
            self.same([kinds.is_kind(value), kinds.is_field(value)], [False] * 2)
            for call in (kinds.nought, lambda kind: Poly(kind, ()), lambda kind: meeting.through(kind, ())):
                self.raises(errors.InvalidKind(value), lambda: call(value))
            for call in (Ratio, lambda number: Ratio(1, number), Ratio(1).power, Ratio(1).is_below, Rest(1, 5).power,
                         Poly("ratio", (1,)).at, lambda number: Rest(1, number)):
                self.raises(errors.InvalidNumber(value), lambda: call(value))
            self.raises(errors.InvalidCoefficients(1), lambda: Poly("whole", (1, value)))
            self.raises(errors.InvalidPoints(1), lambda: meeting.through("ratio", ((1, 1), (2, value))))
            self.raises(errors.InvalidBottoms(0), lambda: meeting.shares(Poly("ratio", ()), (value,)))
            self.raises(errors.InvalidText(value), lambda: Poly.read(value))
            self.raises(errors.NotANumber(value), lambda: kinds.kind_of(value))
            self.raises(errors.InvalidEntries(1), lambda: Column((1, value)))
            self.raises(errors.InvalidEntries(None), lambda: Column(value))
            self.raises(errors.InvalidRows(0), lambda: Grid(((1, value),)))
            self.raises(errors.InvalidRows(1), lambda: Grid(((1,), value)))
            self.raises(errors.InvalidRows(None), lambda: Grid(value))
            self.raises(errors.InvalidIndex(value), lambda: Grid(((1,),))[value])
            self.raises(errors.InvalidIndex((0, value)), lambda: Grid(((1,),))[0, value])
            self.raises(errors.InvalidNumber(value), lambda: Grid(((1,),)) ** value)
            for call in (Column.read, Grid.read):
                self.raises(errors.InvalidText(value), lambda: call(value))

    def test_errors_are_true(self):
        self.same([bool(errors.Nought()), bool(errors.InvalidNumber(0))], [True] * 2)


class OtherOperands(Told):
    def test_signs_take_nothing_else(self):
        column, grid = Column((Ratio(1), 2)), Grid(((Ratio(1), 2), (3, 4)))
        for value in [None, True, "1", (1,), [1], {}, object(), Rest(1, 3), Poly("ratio", (1,)), Grid]:
            for one in (column, grid):
                for action in (lambda: one + value, lambda: value + one, lambda: one - value, lambda: value - one,
                               lambda: one * value, lambda: value * one):
                    self.assertRaises(TypeError, action)
        for action in (lambda: column + grid, lambda: grid + column, lambda: column * grid, lambda: column * column,
                       lambda: column + 1, lambda: 1 + column, lambda: grid - 1, lambda: 1 - grid, lambda: grid + Ratio(1),
                       lambda: list(grid), lambda: 1 in grid, lambda: column ** 2, lambda: grid // grid):
            self.assertRaises(TypeError, action)


class WhatIsAWholeNumber(Told):
    def test_true_and_false_are_none(self):
        for value in (True, False):
            ratio, rest, poly = Ratio(1, 2), Rest(1, 5), Poly("ratio", (1, 1))
            calls = (
                lambda: Ratio(value), lambda: Ratio(1, value), lambda: Rest(value, 5), lambda: Rest(1, value),
                lambda: ratio.power(value), lambda: rest.power(value), lambda: poly.power(value), lambda: poly.at(value),
                lambda: ratio.is_below(value), lambda: kinds.number_of("ratio", value),
                lambda: dividing.power_by(poly, value, poly), lambda: ratio ** value, lambda: rest ** value,
                lambda: poly ** value,
            )
            for call in calls:
                self.raises(errors.InvalidNumber(value), call)
            for call in (kinds.kind_of, kinds.written, kinds.is_unit, kinds.unit_inverse, square_root, order_of):
                self.raises(errors.NotANumber(value), lambda: call(value))
            self.raises(errors.InvalidCoefficients(0), lambda: Poly("whole", (value,)))
            self.raises(errors.InvalidEntries(0), lambda: Column((value,)))
            self.raises(errors.InvalidRows(0), lambda: Grid(((value,),)))
            self.raises(errors.InvalidNumber(value), lambda: Grid(((1,),)) ** value)
            self.raises(errors.InvalidIndex((value, 0)), lambda: Grid(((1, 2), (3, 4)))[value, 0])
            self.raises(errors.InvalidIndex(value), lambda: Column((1, 2)).entry(value))
            self.raises(errors.InvalidIndex(value), lambda: Grid(((1, 2), (3, 4))).row(value))

    def test_a_list_is_not_taken_for_a_tuple(self):
        ratio = Poly("ratio", (1, 1))
        self.raises(errors.InvalidCoefficients(None), lambda: Poly("whole", [1, 2]))
        self.raises(errors.InvalidPoints(None), lambda: meeting.through("ratio", [(1, 2)]))
        self.raises(errors.InvalidPoints(0), lambda: meeting.through("ratio", ([1, 2],)))
        self.raises(errors.InvalidBottoms(None), lambda: meeting.shares(ratio, [ratio]))
        self.raises(errors.InvalidEntries(None), lambda: Column([1]))
        self.raises(errors.InvalidRows(None), lambda: Grid([(1,)]))
        self.raises(errors.InvalidRows(0), lambda: Grid(([1],)))
        self.raises(errors.InvalidIndex([0, 0]), lambda: Grid(((1,),))[[0, 0]])

    def test_several_things_are_told_as_tuples(self):
        one, other = Poly("ratio", (1, 1)), Poly("ratio", (2, 0, 1))
        told = (one.coefficients, dividing.divided(one, other), dividing.bezout(one, other), dividing.powers(other),
                dividing.powers(other)[0], meeting.shares(one, (one, other)), Poly("ratio", ()).coefficients,
                dividing.powers(Poly("ratio", (1,))), dividing.bezout(one - one, one - one))
        for value in told:
            self.assertIs(type(value), tuple)


class GivenIsWhatWasPassed(Told):
    def test_it_is_the_very_value(self):
        for value in ([1, [2]], {"a": 1}, DEEP, object(), Poly("whole", (1,))):
            calls = (
                lambda: Ratio(value), lambda: Ratio.read(value), lambda: Poly(value, ()), lambda: Poly.read(value),
                lambda: Rest(1, value), lambda: kinds.nought(value), lambda: kinds.read_number("whole", value),
                lambda: joined(Rest(1, 2), value), lambda: meeting.through(value, ()), lambda: square_root(value),
            )
            for call in calls:
                with self.assertRaises(errors.WrongValue) as caught:
                    call()
                self.assertIs(caught.exception.given, value)

    def test_numbers_that_are_no_units_are_told_themselves(self):
        for number in (Ratio(0), Rest(2, 4), Poly("ratio", (1, 1)), 2):
            with self.assertRaises(errors.NotAUnit) as caught:
                kinds.unit_inverse(number)
            self.assertIs(caught.exception.given, number)
        with self.assertRaises(errors.NotAUnit) as caught:
            Rest(2, 4).power(-1)
        self.same(caught.exception.given, Rest(2, 4))


class EqualCalls(Told):
    def test_they_tell_equal_things(self):
        one, other = Poly("rest 5", (1, 2, 3, 4)), Poly("rest 5", (4, 0, 1))
        calls = (lambda: one * other, lambda: dividing.bezout(one, other), lambda: dividing.powers(other),
                 lambda: meeting.mixed(other, one, one, other), lambda: Ratio(1, 3) - 7, lambda: Rest(3, 10) ** -5)
        for call in calls:
            self.same(call(), call())


class Exactness(Told):
    def test_great_numbers_lose_nothing(self):
        far = 10 ** 59 + 33
        self.same((Ratio(1, far) + Ratio(1, far + 1)) * far * (far + 1), Ratio(2 * far + 1))
        self.same(Ratio(far, far + 1).is_below(Ratio(far + 1, far + 2)), True)
        self.same(Ratio(-1, far).floor(), -1)
        self.same((Ratio(far, 7) ** 64).inverse() * Ratio(far, 7) ** 64, Ratio(1))
        poly = Poly("whole", (far, -far, 1))
        self.same(poly.at(far), far)
        self.same((poly ** 3 // poly) // poly, poly)

    def test_what_was_returned_may_be_passed_whatever_its_size(self):
        ratio = Ratio(10 ** 59, 3) ** 64 * Ratio(10 ** 59, 7) ** 64 * Ratio(10 ** 59, 11) ** 64
        self.same([ratio - ratio, ratio.inverse().inverse()], [Ratio(0), ratio])
        self.same(Poly("ratio", (ratio, 1)).at(-ratio), Ratio(0))
        self.same(kinds.kind_of(ratio), "ratio")
        self.same(Rest(ratio.top, 10 ** 6), Rest(0, 10 ** 6))
        grid = Grid(((10 ** 59, 1), (1, 10 ** 59))) ** 64
        self.same([grid - grid, Grid(grid.rows), grid * grid], [nought_grid("whole", 2, 2), grid, grid.power(2)])
        self.same(Column(grid.rows[0]) * ratio.top, ratio.top * grid.row(0))
