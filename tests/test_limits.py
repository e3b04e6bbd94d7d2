import unittest

from gridwright import limits


class Limits(unittest.TestCase):
    def test_each_has_the_value_that_the_document_tells(self):
        told = {
            "MOST_SIDE": 8, "MOST_MODULUS": 1000000, "MOST_PRIME": 100, "MOST_POWER": 64, "MOST_FAR": 10 ** 30,
            "MOST_RUN": 40, "MOST_LISTED": 400, "MOST_LOOKS": 12, "MOST_PLACES": 16,
        }
        for name, value in told.items():
            self.assertIs(type(getattr(limits, name)), int, name)
            self.assertEqual(getattr(limits, name), value, name)
