"""[51]: steps."""

from mapsizes.places import Place
from mapsizes.steps import is_step
from tests.helper import SIXTY_DIGITS, Checks, any_values, values_of_no_text

STEPS = [
    ("cut", "n"), ("cut", 0), ("write", "n", "m+3", "x"), ("write", 3, 0, "abcdef"), ("read", Place("n")),
    ("read", "3"), ("look", "n-3"), ("store", "n", "y"), ("store", Place(shift=2), "olds"), ("test", "n+1"),
    ("sync", "n", "n"), ("sync", 0, "m"), ("lock", "a"), ("unlock", "zzzzzz"), ("lock", "old"), ("unlock", "none"),
]
NO_MARKS = ["old", "zero", "end", "fails", "more", "done", "none", "", "X", "abcdefg", "n+1", 1]
NO_NAMES = ["", "X", "abcdefg", "n+1", "a b", 0, 1, SIXTY_DIGITS]
NO_PLACES = ["", "n+4", "n+0", "N", "4", 4, -1, SIXTY_DIGITS]


class TestSteps(Checks):
    def test_steps(self):
        for step in STEPS:
            self.told(is_step, step, True)
        self.assertIs(is_step(value=("cut", 1)), True)

    def test_other_numbers_of_items(self):
        for step in STEPS:
            for other in [step[:-1], (*step, "x"), (*step, 1), (*step, step[-1])]:
                self.told(is_step, other, other in STEPS)
        self.told(is_step, (), False)

    def test_lists_are_no_steps(self):
        for step in STEPS:
            for other in [list(step), {step[0]: step[1]}, (step,), [step], " ".join(map(str, step))]:
                self.told(is_step, other, False)

    def test_other_words(self):
        for word in ["", "Cut", "cut ", "cuts", "done", "page", "at_most", "n"] + values_of_no_text() + [0, Place("n")]:
            for rest in [("n",), ("n", "x"), ("n", "n"), ("n", "m", "x")]:
                self.told(is_step, (word, *rest), False)

    def test_wrong_places(self):
        for value in NO_PLACES + values_of_no_text():
            for step in [
                ("cut", value), ("read", value), ("look", value), ("test", value), ("store", value, "x"),
                ("sync", value, "n"), ("sync", "n", value), ("write", value, "n", "x"), ("write", "n", value, "x"),
            ]:
                self.told(is_step, step, False)

    def test_wrong_marks(self):
        for value in NO_MARKS + values_of_no_text() + [Place("x")]:
            self.told(is_step, ("store", "n", value), False)
            self.told(is_step, ("write", "n", "n+1", value), False)

    def test_wrong_names(self):
        for value in NO_NAMES + values_of_no_text() + [Place("a")]:
            self.told(is_step, ("lock", value), False)
            self.told(is_step, ("unlock", value), False)

    def test_any_value(self):
        for value in any_values():
            self.told(is_step, value, False)
