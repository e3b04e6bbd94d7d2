"""The names, the arguments and the places of the interface."""

import inspect
import unittest
from importlib import import_module

from gridwright.polys import Poly
from gridwright.ratios import Ratio
from gridwright.rests import Rest

FUNCTIONS = {
    "ratios": ("square_root(number)",),
    "rests": ("order_of(number)", "joined(one, other)"),
    "kinds": (
        "kind_of(number)", "is_kind(value)", "is_field(value)", "nought(kind)", "one(kind)", "number_of(kind, whole)",
        "written(number)", "read_number(kind, text)", "is_unit(number)", "unit_inverse(number)",
    ),
    "dividing": (
        "divided(poly, other)", "common(poly, other)", "bezout(poly, other)", "least_multiple(poly, other)",
        "are_clear(poly, other)", "inverse_by(poly, modulus)", "power_by(poly, exponent, modulus)", "content(poly)",
        "primitive(poly)", "bare(poly)", "powers(poly)",
    ),
    "meeting": (
        "through(kind, points)", "mixed(poly, left, other, right)", "disagreement(poly, left, other, right)",
        "shares(poly, bottoms)",
    ),
}
SIGNS = "__add__ __radd__ __sub__ __rsub__ __mul__ __rmul__ __neg__ __pow__ __eq__ __bool__"
CLASSES = {
    Ratio: (Ratio(1, 2), "ratios", "(top, bottom=1)", "top bottom is_whole text", SIGNS + " __abs__",
            ("power(exponent)", "inverse()", "floor()", "is_below(other)")),
    Rest: (Rest(1, 2), "rests", "(number, modulus)", "number modulus is_unit text", SIGNS, ("power(exponent)", "inverse()")),
    Poly: (Poly("whole", ()), "polys", "(kind, coefficients)", "kind coefficients degree lead text", SIGNS + " __floordiv__ __mod__",
           ("power(exponent)", "at(number)", "slope()", "monic()", "put(other)")),
}
ORDER = ("limits", "errors", "ratios", "rests", "polys", "kinds", "dividing", "meeting")


class Interface(unittest.TestCase):
    def test_functions_and_their_arguments(self):
        for file, told in FUNCTIONS.items():
            module = import_module(f"gridwright.{file}")
            for row in told:
                name = row.partition("(")[0]
                function = getattr(module, name)
                self.assertTrue(inspect.isfunction(function), row)
                self.assertEqual(name + str(inspect.signature(function)), row)
                self.assertEqual(function.__module__, f"gridwright.{file}")
                self.assertEqual(function.__name__, name)

    def test_classes_with_all_their_own_methods_and_properties(self):
        for one, (made, file, arguments, properties, signs, methods) in CLASSES.items():
            self.assertEqual(one.__module__, f"gridwright.{file}")
            self.assertEqual(str(inspect.signature(one)), arguments)
            own = vars(one)
            for name in properties.split():
                self.assertFalse(callable(getattr(made, name)), name)
            for name in signs.split():
                self.assertTrue(inspect.isfunction(own[name]), name)
            for row in methods:
                name, _, inner = row.partition("(")
                names = ["self", *[part for part in inner[:-1].split(", ") if part]]
                self.assertEqual(list(inspect.signature(own[name]).parameters), names)

    def test_read_is_a_static_method(self):
        for one in (Ratio, Poly):
            self.assertIsInstance(vars(one)["read"], staticmethod)
            self.assertEqual(str(inspect.signature(one.read)), "(text)")

    def test_parameters_are_given_by_position_or_by_name(self):
        plain = inspect.Parameter.POSITIONAL_OR_KEYWORD
        for file, told in FUNCTIONS.items():
            for row in told:
                function = getattr(import_module(f"gridwright.{file}"), row.partition("(")[0])
                for parameter in inspect.signature(function).parameters.values():
                    self.assertEqual(parameter.kind, plain, row)

    def test_a_module_needs_only_those_listed_ahead_of_it(self):
        for place, file in enumerate(ORDER):
            needed = needs(file, set())
            self.assertLessEqual(needed & set(ORDER), set(ORDER[:place]), file)


def needs(file, found):
    """The names of all modules that a module imports, also over others."""
    for row in inspect.getsource(import_module(f"gridwright.{file}")).split("\n"):
        if row.startswith("from gridwright."):
            name = row.split()[1].partition(".")[2]
            if name not in found:
                found.add(name)
                needs(name, found)
    return found
