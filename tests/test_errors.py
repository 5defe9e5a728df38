"""[8] and [11]: the exception classes, their bases and their fields."""

import inspect

from mapsizes import errors
from tests.helper import Checks, any_values

OF_MAP_ERROR = {
    "InvalidInteger": ["value"],
    "InvalidName": ["value"],
    "InvalidPlace": ["value"],
    "InvalidPlaces": ["value"],
    "InvalidFact": ["value"],
    "InvalidFacts": ["value"],
    "InvalidSetting": ["value"],
    "InvalidStep": ["value"],
    "InvalidHand": ["value"],
    "InvalidProgram": ["value"],
    "InvalidWeaving": ["value"],
    "InvalidPattern": ["value"],
    "InvalidStates": ["value"],
    "InvalidGuard": ["value"],
    "InvalidGuards": ["value"],
    "InvalidText": ["value"],
    "InvalidLine": ["index"],
    "InvalidCommand": ["value"],
    "Unordered": ["left", "right"],
}
OF_STATE_ERROR = {
    "NotReady": ["hand"],
    "NoProgram": [],
    "NothingToUndo": [],
    "NoTrial": [],
}
ALL = {**OF_MAP_ERROR, **OF_STATE_ERROR}


class TestBases(Checks):
    def test_bases_of_the_bases(self):
        self.assertEqual(errors.MapError.__bases__, (ValueError,))
        self.assertEqual(errors.StateError.__bases__, (LookupError,))

    def test_each_class_is_directly_under_one_base(self):
        for name in OF_MAP_ERROR:
            self.assertEqual(getattr(errors, name).__bases__, (errors.MapError,), name)
        for name in OF_STATE_ERROR:
            self.assertEqual(getattr(errors, name).__bases__, (errors.StateError,), name)

    def test_there_are_no_other_classes(self):
        found = [name for name, _ in inspect.getmembers(errors, inspect.isclass)]
        self.assertEqual(found, sorted([*ALL, "MapError", "StateError"]))

    def test_bases_take_one_string(self):
        self.assertEqual(str(errors.MapError("some words")), "some words")
        self.assertEqual(str(errors.StateError("other words")), "other words")

    def test_caught_by_the_base_and_by_the_class_of_python(self):
        for caught in (errors.InvalidName, errors.MapError, ValueError):
            with self.assertRaises(caught):
                raise errors.InvalidName(7)
        for caught in (errors.NoTrial, errors.StateError, LookupError):
            with self.assertRaises(caught):
                raise errors.NoTrial()

    def test_neither_base_catches_classes_of_the_other(self):
        for name in OF_MAP_ERROR:
            self.assertFalse(issubclass(getattr(errors, name), LookupError), name)
        for name in OF_STATE_ERROR:
            self.assertFalse(issubclass(getattr(errors, name), ValueError), name)


class TestFields(Checks):
    def test_any_values_by_position(self):
        for name, fields in ALL.items():
            for value in any_values():
                passed = [value] + [["another"] for _ in fields[1:]]
                self.keeps(getattr(errors, name)(*passed[:len(fields)]), fields, passed)

    def test_any_values_by_name(self):
        for name, fields in ALL.items():
            for value in any_values():
                passed = [["another"] for _ in fields[1:]] + [value]
                error = getattr(errors, name)(**dict(zip(fields, passed)))
                self.keeps(error, fields, passed)

    def keeps(self, error, fields, passed):
        for field, value in zip(fields, passed):
            self.assertIs(getattr(error, field), value)
        self.assertIsInstance(str(error), str)
        self.assertIsInstance(repr(error), str)

    def test_one_argument_for_each_field(self):
        for name, fields in ALL.items():
            kind = getattr(errors, name)
            with self.assertRaises(TypeError, msg=name):
                kind(*[1 for _ in range(len(fields) + 1)])
            if fields:
                with self.assertRaises(TypeError, msg=name):
                    kind(*[1 for _ in fields[1:]])

    def test_fields_stay_as_they_were_passed(self):
        value = [1, {"n": ["m"]}]
        error = errors.InvalidHand(value)
        self.assertEqual(error.value, [1, {"n": ["m"]}])
        value.append(2)
        self.assertEqual(error.value, [1, {"n": ["m"]}, 2])

    def test_an_exception_equals_only_itself(self):
        error = errors.InvalidInteger(4)
        self.assertTrue(error == error)
        self.assertFalse(error == errors.InvalidInteger(4))
