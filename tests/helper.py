"""What the tests of all modules share."""

import unittest

from mapsizes.places import Place
from mapsizes.settings import Setting

SIXTY_DIGITS = int("9" * 60)


class Checks(unittest.TestCase):
    def refused(self, kind, fields, call, *args, **named):
        """The call raises just this class, and its fields are the very objects that are told, by their names."""
        with self.assertRaises(kind) as caught:
            call(*args, **named)
        self.assertIs(type(caught.exception), kind)
        for name, value in fields.items():
            self.assertIs(getattr(caught.exception, name), value)

    def told(self, call, value, wanted):
        """The call returns True or False itself, not only something that counts as it."""
        self.assertIs(call(value), wanted, value)


def values_of_no_text():
    """Values of each kind in which no string and no integer is, new ones at each call."""
    return [None, True, False, [], ["n"], (), ("n",), ("n", 1), {}, {"n": 1}, Setting({"n": 1})]


def any_values():
    """Values of each kind, new ones at each call."""
    return values_of_no_text() + [0, -1, SIXTY_DIGITS, "", "n", "x" * 2000, "n m", Place("n"), Place(shift=2)]
