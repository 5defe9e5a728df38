"""[12], [13] and [14]: integers, names, marks and places."""

from mapsizes.errors import InvalidInteger, InvalidName, InvalidPlace, Unordered
from mapsizes.places import Place, is_integer, is_integer_from, is_mark, is_name, is_place
from mapsizes.settings import Setting
from tests.helper import SIXTY_DIGITS, Checks, values_of_no_text

NO_NAMES = [
    "", "abcdefg", "N", "aB", "n1", "n+1", "n ", " n", "n\n", "a_b", "a-b", "1", "x" * 2000, "\u00e4", "\u03b1",
]
NO_PLACES = [
    "", "n+0", "n-0", "n+4", "n-4", "n+10", "n+01", "n+-1", "n++1", "n+1+1", "n+1-1", "n+", "n-", "n 1", "n +1",
    "n+ 1", "n+1 ", " n", "n\n", "+1", "-1", "+0", "-0", "4", "9", "10", "00", "03", "0+1", "3-1", "1n", "n1", "N",
    "N+1", "abcdefg", "abcdefg+1", "n=1", "n\u00b2", "n+\u0663", "\u0663", "x" * 2000,
]
PLACES_OF_N = ["n-3", "n-2", "n-1", "n", "n+1", "n+2", "n+3"]


class TestIntegers(Checks):
    def test_from_low_to_high(self):
        for value, low, high, wanted in [
            (2, 1, 3, True), (1, 1, 3, True), (3, 1, 3, True), (0, 1, 3, False), (4, 1, 3, False),
            (0, 0, 0, True), (-2, -3, -1, True), (-4, -3, -1, False), (0, -3, -1, False), (2, 3, 1, False),
            (SIXTY_DIGITS, 0, SIXTY_DIGITS, True), (SIXTY_DIGITS, 0, SIXTY_DIGITS - 1, False),
            (-SIXTY_DIGITS, -SIXTY_DIGITS, 0, True), (0, -SIXTY_DIGITS, SIXTY_DIGITS, True),
        ]:
            self.assertIs(is_integer(value, low, high), wanted, (value, low, high))

    def test_true_and_false_and_other_values_are_no_integers(self):
        for value in values_of_no_text() + ["", "1", "n", Place("n"), Place(shift=1)]:
            self.assertIs(is_integer(value, -9, 9), False, value)
            self.assertIs(is_integer_from(value, -9), False, value)

    def test_without_an_upper_limit(self):
        for value, low, wanted in [(0, 0, True), (-1, 0, False), (0, 1, False), (1, 1, True), (SIXTY_DIGITS, 1, True)]:
            self.assertIs(is_integer_from(value, low), wanted, (value, low))

    def test_by_name(self):
        self.assertIs(is_integer(value=2, low=1, high=3), True)
        self.assertIs(is_integer(high=1, low=3, value=2), False)


class TestNames(Checks):
    def test_names(self):
        for value in ["a", "z", "n", "abcdef", "zzzzzz", "old", "zero", "end", "fails", "more", "done", "none"]:
            self.told(is_name, value, True)

    def test_no_names(self):
        for value in NO_NAMES + values_of_no_text() + [0, 1, Place("n")]:
            self.told(is_name, value, False)

    def test_marks(self):
        for value in ["a", "z", "abcdef", "olds", "ol", "ends", "fail", "one", "page", "cut"]:
            self.told(is_mark, value, True)

    def test_names_that_are_no_marks(self):
        for value in ["old", "zero", "end", "fails", "more", "done", "none"]:
            self.told(is_mark, value, False)

    def test_what_is_no_name_is_no_mark(self):
        for value in NO_NAMES + values_of_no_text() + [0, 1, Place("n")]:
            self.told(is_mark, value, False)

    def test_by_name(self):
        self.assertIs(is_name(value="n"), True)
        self.assertIs(is_mark(value="old"), False)


class TestPlace(Checks):
    def test_base_and_shift(self):
        for base in ["n", "z", "abcdef", "old"]:
            for shift in range(-3, 4):
                place = Place(base, shift=shift)
                self.assertEqual((place.base, place.shift), (base, shift))

    def test_numbers(self):
        for shift in range(4):
            place = Place(shift=shift)
            self.assertEqual((place.base, place.shift, str(place)), ("", shift, str(shift)))

    def test_defaults_and_names_of_the_arguments(self):
        self.assertEqual((Place().base, Place().shift), ("", 0))
        self.assertEqual((Place("n").base, Place("n").shift), ("n", 0))
        self.assertEqual(Place(shift=2, base="n"), Place("n", shift=2))
        with self.assertRaises(TypeError):
            Place("n", 2)

    def test_bases_that_are_refused(self):
        for base in [base for base in NO_NAMES if base != ""] + values_of_no_text() + [0, 1, Place("n"), Place()]:
            self.refused(InvalidName, {"value": base}, Place, base)

    def test_shifts_that_are_refused(self):
        wrong = values_of_no_text() + ["", "1", Place("n"), Place(shift=1), SIXTY_DIGITS, -SIXTY_DIGITS]
        for shift in wrong + [4, -4]:
            self.refused(InvalidInteger, {"value": shift}, Place, "n", shift=shift)
        for shift in wrong + [4, -1, -3]:
            self.refused(InvalidInteger, {"value": shift}, Place, shift=shift)

    def test_of_two_faults_the_base_comes_first(self):
        base = ["n"]
        self.refused(InvalidName, {"value": base}, Place, base, shift=4)
        self.refused(InvalidName, {"value": base}, Place, shift=None, base=base)

    def test_str(self):
        self.assertEqual([str(Place("n", shift=shift)) for shift in range(-3, 4)], PLACES_OF_N)
        self.assertEqual(str(Place("abcdef", shift=-1)), "abcdef-1")
        self.assertEqual(str(Place()), "0")

    def test_repr_is_a_string(self):
        for place in [Place(), Place("n"), Place("n", shift=-3)]:
            self.assertIsInstance(repr(place), str)

    def test_equal_by_base_and_shift(self):
        texts = [*PLACES_OF_N, "m", "m+1", "nn", "0", "1", "2", "3"]
        for one in texts:
            for other in texts:
                self.assertIs(Place.of(one) == Place.of(other), one == other, (one, other))
                self.assertIs(Place.of(one) != Place.of(other), one != other, (one, other))

    def test_equal_to_no_other_class(self):
        for value in values_of_no_text() + ["n", "n+0", 0]:
            self.assertIs(Place("n") == value, False)
            self.assertIs(value == Place("n"), False)
        self.assertFalse(Place(shift=3) == 3)
        self.assertFalse(Place() == "")

    def test_never_changes(self):
        place = Place("n", shift=1)
        with self.assertRaises(AttributeError):
            place.base = "m"
        with self.assertRaises(AttributeError):
            place.shift = 2
        self.assertEqual(str(place), "n+1")


class TestPlaceOf(Checks):
    def test_texts_as_str_returns_them(self):
        for base in ["n", "z", "abcdef", "zero"]:
            for shift in range(-3, 4):
                place = Place(base, shift=shift)
                self.assertEqual(Place.of(str(place)), place)
        for shift in range(4):
            self.assertEqual(Place.of(str(shift)), Place(shift=shift))

    def test_integers_and_places(self):
        for number in range(4):
            self.assertEqual(Place.of(number), Place(shift=number))
        for place in [Place("n", shift=-3), Place(shift=3), Place()]:
            self.assertEqual(Place.of(place), place)
            self.assertIsInstance(Place.of(place), Place)
        self.assertEqual(Place.of(value="n+2"), Place("n", shift=2))

    def test_values_that_are_refused(self):
        for value in NO_PLACES + values_of_no_text() + [-1, 4, SIXTY_DIGITS, -SIXTY_DIGITS]:
            self.refused(InvalidPlace, {"value": value}, Place.of, value)
            self.told(is_place, value, False)

    def test_is_place(self):
        for value in [0, 1, 2, 3, "0", "3", *PLACES_OF_N, "abcdef+3", Place(), Place("n", shift=-3)]:
            self.told(is_place, value, True)
        self.assertIs(is_place(value="m+1"), True)


class TestSums(Checks):
    def test_examples_of_the_document(self):
        n = Place("n")
        self.assertEqual(
            [str(n + 2), str(3 + n), str(n - 1), (n + 2) - (n - 1), Place.of("n-3") == n - 3],
            ["n+2", "n+3", "n-1", 3, True],
        )
        self.assertEqual([is_place(3), is_place(4), is_place("n+0"), is_place("m+1")], [True, False, False, True])
        self.refused(InvalidInteger, {"value": 4}, lambda: n + 4)

    def test_all_shifts_of_an_unknown(self):
        for shift in range(-3, 4):
            for k in range(-8, 9):
                self.moved("n", shift, k, -3 <= shift + k <= 3)

    def test_all_numbers(self):
        for shift in range(4):
            for k in range(-5, 6):
                self.moved("", shift, k, 0 <= shift + k <= 3)

    def moved(self, base, shift, k, there_is_one):
        place = Place(base, shift=shift)
        if there_is_one:
            wanted = Place(base, shift=shift + k)
            self.assertEqual([place + k, k + place, place - -k], [wanted, wanted, wanted])
            self.assertEqual([one.shift for one in (place + k, k + place, place - -k)], [shift + k] * 3)
        else:
            less = -k
            self.refused(InvalidInteger, {"value": k}, lambda: place + k)
            self.refused(InvalidInteger, {"value": k}, lambda: k + place)
            self.refused(InvalidInteger, {"value": less}, lambda: place - less)
        self.assertEqual((place.base, place.shift), (base, shift))

    def test_great_integers(self):
        n, less = Place("n"), -SIXTY_DIGITS
        for k in (SIXTY_DIGITS, less):
            self.refused(InvalidInteger, {"value": k}, lambda: n + k)
            self.refused(InvalidInteger, {"value": k}, lambda: k + n)
            self.refused(InvalidInteger, {"value": k}, lambda: n - k)

    def test_other_values(self):
        for place in [Place("n"), Place(shift=1)]:
            for value in values_of_no_text() + ["", "1", "n"]:
                self.refused(InvalidInteger, {"value": value}, lambda: place + value)
                self.refused(InvalidInteger, {"value": value}, lambda: value + place)
                self.refused(InvalidInteger, {"value": value}, lambda: place - value)

    def test_two_places_have_no_sum(self):
        for one in [Place("n"), Place(shift=1)]:
            for other in [Place("n"), Place("m"), Place(), Place(shift=1)]:
                self.refused(InvalidInteger, {"value": other}, lambda: one + other)

    def test_differences(self):
        for one in range(-3, 4):
            for other in range(-3, 4):
                self.assertEqual(Place("n", shift=one) - Place("n", shift=other), one - other)
        for one in range(4):
            for other in range(4):
                self.assertEqual(Place(shift=one) - Place(shift=other), one - other)
        self.assertIs(type(Place("n", shift=1) - Place("n")), int)

    def test_differences_of_unlike_unknowns(self):
        for one, other in [("n", "m"), ("m+1", "n+1"), ("n", 0), (3, "n+3"), ("n", "nn")]:
            one, other = Place.of(one), Place.of(other)
            self.refused(Unordered, {"left": one, "right": other}, lambda: one - other)

    def test_settings_are_not_added(self):
        place, setting = Place("n"), Setting({"n": 1})
        self.refused(InvalidInteger, {"value": setting}, lambda: setting + place)

    def test_a_place_that_is_moved_stays_as_it_was(self):
        place = first = Place("n")
        place += 2
        self.assertEqual([str(place), str(first)], ["n+2", "n"])
