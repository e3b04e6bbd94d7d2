import builtins
import unittest

from gridwright import errors

BASES = {"WrongValue": ValueError, "WrongName": LookupError, "NoAnswer": ArithmeticError}
CLASSES = {
    ("WrongValue", ("given",)): (
        "InvalidNumber InvalidKind InvalidText InvalidIndex InvalidOrder InvalidDeed InvalidMode InvalidName "
        "InvalidWish InvalidLine NotANumber NotAPoly NotAColumn NotAGrid NotAGroup NotLooks NotABench"),
    ("WrongValue", ("index",)): (
        "InvalidCoefficients InvalidEntries InvalidRows InvalidColumns InvalidIndexes InvalidGrids InvalidPoints "
        "InvalidBottoms InvalidPolys InvalidRun InvalidPairs InvalidPlaces InvalidLog"),
    ("WrongValue", ("kind",)): "NotAField NotWhole NotOrdered NotRests",
    ("WrongValue", ("kind", "other")): "Unlike NotLed",
    ("WrongValue", ("shape",)): "NotSquare",
    ("WrongValue", ("shape", "other")): "InvalidShape",
    ("WrongName", ("given",)): "UnknownName",
    ("WrongName", ("index",)): "InUse",
    ("NoAnswer", ("given",)): "NotAUnit NotApart TooMany TooFew TooGreat NotARule NotMonic NoTriangles",
    ("NoAnswer", ("kind",)): "NoGoal",
    ("NoAnswer", ("index",)): "Broken",
    ("NoAnswer", ()): "Nought NoInverse NoRound NoSuchRoot NotWithin Quarrels NothingToUndo",
}


def listed():
    for (base, attributes), names in CLASSES.items():
        for name in names.split():
            yield name, base, attributes


class Errors(unittest.TestCase):
    def test_the_base_classes_stand_under_pythons_own_alone_and_have_no_attributes(self):
        for name, own in BASES.items():
            base = getattr(errors, name)
            self.assertEqual(base.__bases__, (own,))
            self.assertEqual(vars(base()), {})

    def test_each_class_stands_under_its_base_class_and_no_other(self):
        for name, base, _ in listed():
            above = getattr(errors, name).__mro__
            self.assertEqual(above[1:], getattr(errors, base).__mro__, name)
            own = [one for one in above if one.__module__ == "gridwright.errors"]
            self.assertEqual([one.__name__ for one in own], [name, base])

    def test_python_s_own_classes_are_those_of_the_base_alone(self):
        for name, base, _ in listed():
            for other in vars(builtins).values():
                if isinstance(other, type) and issubclass(other, BaseException):
                    under = issubclass(getattr(errors, name), other)
                    self.assertEqual(under, issubclass(BASES[base], other), (name, other))

    def test_attributes_by_position_and_by_name_whatever_they_are(self):
        values = (None, True, [1], {}, "x", (1, (2,)), object(), 10 ** 100)
        for name, _, attributes in listed():
            made = getattr(errors, name)
            for value in values:
                given = [value, object()][:len(attributes)]
                for error in (made(*given), made(**dict(zip(attributes, given)))):
                    self.assertEqual(list(vars(error)), list(attributes), name)
                    for attribute, worth in zip(attributes, given):
                        self.assertIs(getattr(error, attribute), worth)

    def test_all_classes_are_listed(self):
        own = [name for name, value in vars(errors).items() if isinstance(value, type)]
        self.assertEqual(sorted(own), sorted([*BASES, *[name for name, _, _ in listed()]]))
        self.assertEqual(len(own), 60)

    def test_they_are_raised_and_caught_by_their_base_classes(self):
        for name, base, attributes in listed():
            with self.assertRaises(getattr(errors, base)):
                raise getattr(errors, name)(*attributes)
