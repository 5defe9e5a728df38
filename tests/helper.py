"""What the tests of all modules share."""

import unittest

from mapsizes.facts import Facts
from mapsizes.places import Place
from mapsizes.settings import Setting

SIXTY_DIGITS = int("9" * 60)
PLACES_OF_N = ["n-3", "n-2", "n-1", "n", "n+1", "n+2", "n+3"]
PLACES_OF_M = ["m-3", "m-2", "m-1", "m", "m+1", "m+2", "m+3"]


class Checks(unittest.TestCase):
    def refused(self, kind, fields, call, *args, **named):
        """The call raises just this class, and its fields are the very objects that are told, by their names."""
        with self.assertRaises(kind) as caught:
            call(*args, **named)
        self.assertIs(type(caught.exception), kind)
        for name, value in fields.items():
            self.assertIs(getattr(caught.exception, name), value)

    def refused_with_list(self, kind, items, call, *args, **named):
        """The call raises just this class, and its field is a new list of these items, told anew at each call."""
        found = []
        for _ in range(2):
            with self.assertRaises(kind) as caught:
                call(*args, **named)
            self.assertIs(type(caught.exception), kind)
            found.append(caught.exception.value)
        self.assertEqual(found, [items, items])
        self.assertIs(type(found[0]), list)
        self.assertIsNot(found[0], found[1])
        for value in [*args, *named.values()]:
            self.assertIsNot(found[0], value)

    def told(self, call, value, wanted):
        """The call returns True or False itself, not only something that counts as it."""
        self.assertIs(call(value), wanted, value)


def values_of_no_text():
    """Values of each kind in which no string and no integer is, new ones at each call."""
    objects = [Setting({"n": 1}), Facts(), Facts(("page", "n"))]
    return [None, True, False, [], ["n"], (), ("n",), ("n", 1), {}, {"n": 1}, [[("n",)]], ((("n",), 1),), *objects]


def any_values():
    """Values of each kind, new ones at each call."""
    return values_of_no_text() + [0, -1, SIXTY_DIGITS, "", "n", "x" * 2000, "n m", Place("n"), Place(shift=2)]


def value_of(text, sizes):
    """The value of a place that is told as a text or as an integer, by the sizes of the unknowns."""
    if text in (0, 1, 2, 3) or text in ("0", "1", "2", "3"):
        return int(text)
    for sign in "+-":
        if sign in text:
            name, shift = text.split(sign)
            return sizes[name] + int(sign + shift)
    return sizes[text]


def plain_kind(places, sizes, page):
    """All that [31] compares, word by word, for places that are told as texts."""
    values = [value_of(text, sizes) for text in dict.fromkeys([*places, 0])]
    return tuple(
        (p < q, p // page == q // page, (p - 1) // page == q // page) for p in values for q in values
    )


def keeps_plainly(rows, sizes, page):
    """Whether sizes and a page size keep rows with places that are told as texts [22]."""
    for word, *places in rows:
        values = [value_of(text, sizes) for text in places]
        if (values[0] > values[1]) if word == "at_most" else (values[0] % page != 0):
            return False
    return True
