"""Integers, names, marks, and places: an unknown plus a small shift, or a small number."""

from mapsizes.errors import InvalidInteger, InvalidName, InvalidPlace, Unordered

_LETTERS = "abcdefghijklmnopqrstuvwxyz"
_LONGEST_NAME = 6
# These are names, but they already say something else where a byte or an answer stands.
_NO_MARKS = ("old", "zero", "end", "fails", "more", "done", "none")
_MOST = 3
_NUMBERS = {"0": 0, "1": 1, "2": 2, "3": 3}
_SHIFTS = {"-3": -3, "-2": -2, "-1": -1, "+1": 1, "+2": 2, "+3": 3}


def _is_whole(value):
    # Python counts True and False as integers, the document does not.
    return isinstance(value, int) and not isinstance(value, bool)


def is_integer(value, low, high):
    """Tells whether a value is an integer from low to high."""
    return _is_whole(value) and low <= value <= high


def is_integer_from(value, low):
    """Tells whether a value is an integer from low on, without an upper limit."""
    return _is_whole(value) and low <= value


def is_name(value):
    """Tells whether a value is a name."""
    if not isinstance(value, str) or not 1 <= len(value) <= _LONGEST_NAME:
        return False
    return all([letter in _LETTERS for letter in value])


def is_mark(value):
    """Tells whether a value is a mark, that is, a name that says nothing else of a byte or an answer."""
    return is_name(value) and value not in _NO_MARKS


def is_place(value):
    """Tells whether Place.of accepts a value."""
    try:
        Place.of(value)
    except InvalidPlace:
        return False
    return True


def is_list(value):
    """Tells whether a value is a list, or the tuple that is accepted wherever a list is asked."""
    return isinstance(value, (list, tuple))


def unknowns_of(places):
    """Returns the ascending list of the unknowns of Place objects."""
    return sorted({place.base for place in places if place.base != ""})


def _least_shift(base):
    return 0 if base == "" else -_MOST


def _parts_of_text(text):
    """Returns the base and the shift of a text that str of a Place returns, None for any other text."""
    if text in _NUMBERS:
        return "", _NUMBERS[text]
    if is_name(text):
        return text, 0
    if is_name(text[:-2]) and text[-2:] in _SHIFTS:
        return text[:-2], _SHIFTS[text[-2:]]
    return None


class Place:
    """A place: an unknown plus a shift, or, without an unknown, a number. It never changes."""

    def __init__(self, base="", *, shift=0):
        if base != "" and not is_name(base):
            raise InvalidName(base)
        if not is_integer(shift, _least_shift(base), _MOST):
            raise InvalidInteger(shift)
        self._base = base
        self._shift = shift

    @classmethod
    def of(cls, value):
        """Returns the place that a Place object, an integer or a text is."""
        if isinstance(value, Place):
            return value
        if is_integer(value, 0, _MOST):
            return cls(shift=value)
        parts = _parts_of_text(value) if isinstance(value, str) else None
        if parts is None:
            raise InvalidPlace(value)
        base, shift = parts
        return cls(base, shift=shift)

    @property
    def base(self):
        """The unknown, or an empty string for a number."""
        return self._base

    @property
    def shift(self):
        """The shift of the unknown, or the number."""
        return self._shift

    def __str__(self):
        if self._base == "":
            return str(self._shift)
        if self._shift == 0:
            return f"{self._base}"
        return f"{self._base}{self._shift:+d}"

    def __repr__(self):
        return f"Place({self._base!r}, shift={self._shift})"

    def __eq__(self, other):
        return isinstance(other, Place) and self._base == other._base and self._shift == other._shift

    def __add__(self, other):
        if not is_integer(other, _least_shift(self._base) - self._shift, _MOST - self._shift):
            raise InvalidInteger(other)
        return Place(self._base, shift=self._shift + other)

    def __radd__(self, other):
        return self + other

    def __sub__(self, other):
        if isinstance(other, Place):
            return _difference(self, other)
        if not is_integer(other, self._shift - _MOST, self._shift - _least_shift(self._base)):
            raise InvalidInteger(other)
        return Place(self._base, shift=self._shift - other)


def _difference(one, other):
    if one.base != other.base:
        raise Unordered(one, other)
    return one.shift - other.shift
