"""What the tests share: calls by position and by name, told values compared with their classes, and errors."""

import unittest

SPOILT = (None, True, False, "", "1", "x", (), (1,), [], [1], {}, {1: 2}, b"1", object(), ValueError)


def same(found, expected):
    """Whether two values are equal and of one class, throughout."""
    if type(found) is not type(expected):
        return False
    if isinstance(found, (tuple, list)):
        return len(found) == len(expected) and all(same(a, b) for a, b in zip(found, expected))
    return found is expected or bool(found == expected)


class Told(unittest.TestCase):
    """A test case that calls by position and by name; the arguments are given in the order of the signature."""

    def same(self, found, expected):
        if not same(found, expected):
            self.fail(f"{shown(found)} is not {shown(expected)}")

    def tells(self, expected, call, **named):
        self.same(call(*named.values()), expected)
        self.same(call(**named), expected)

    def refuses(self, expected, call, **named):
        self.raises(expected, lambda: call(*named.values()))
        self.raises(expected, lambda: call(**named))

    def raises(self, expected, action):
        """That just this error is raised, of this very class and with these very attributes."""
        try:
            found = action()
        except Exception as error:
            self.assertIs(type(error), type(expected), repr(error))
            self.assertEqual(list(vars(error)), list(vars(expected)))
            for name, value in vars(expected).items():
                self.same(getattr(error, name), value)
        else:
            self.fail(f"{shown(found)} was told, and {type(expected).__name__} not raised")


def shown(value):
    if isinstance(value, (tuple, list)):
        return "(" + ", ".join(shown(part) for part in value) + ")"
    return f"{type(value).__name__} {value.text}" if hasattr(value, "text") else repr(value)
