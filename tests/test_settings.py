"""[21]: settings."""

from mapsizes.errors import InvalidInteger, InvalidPlace, InvalidSetting
from mapsizes.places import Place
from mapsizes.settings import Setting
from tests.helper import SIXTY_DIGITS, Checks, values_of_no_text


class TestMaking(Checks):
    def test_sizes_and_page(self):
        for sizes in [{}, {"n": 0}, {"abcdef": 7}, {"n": 5, "m": 0}, {"n": SIXTY_DIGITS, "old": SIXTY_DIGITS}]:
            for page in [1, 2, 31, 32, 4096, SIXTY_DIGITS]:
                setting = Setting(sizes, page=page)
                self.assertEqual((setting.sizes(), setting.page), (sizes, page))

    def test_default_and_names_of_the_arguments(self):
        self.assertEqual(Setting({"n": 1}).page, 32)
        self.assertEqual(Setting(page=16, sizes={"n": 1}), Setting({"n": 1}, page=16))
        with self.assertRaises(TypeError):
            Setting({"n": 1}, 16)

    def test_sizes_that_are_refused(self):
        no_dicts = [value for value in values_of_no_text() if not isinstance(value, dict)]
        no_dicts += ["", "n", 0, 1, Place("n"), [("n", 1)], (("n", 1),)]
        wrong_names = [{name: 1} for name in ("", "abcdefg", "N", "n+1", "n1", "1", 1, 0)]
        wrong_sizes = [{"n": size} for size in values_of_no_text() + [-1, -SIXTY_DIGITS, "1", "", Place(shift=1)]]
        more = [{"n": 1, "m": 2, "k": 3}, {"n": 1, "m": -1}, {"n": 1, "M": 2}, {"n": True, "m": 1}]
        for sizes in no_dicts + wrong_names + wrong_sizes + more:
            self.refused(InvalidSetting, {"value": sizes}, Setting, sizes)

    def test_pages_that_are_refused(self):
        for page in values_of_no_text() + [0, -1, -SIXTY_DIGITS, "", "32", Place(shift=1)]:
            self.refused(InvalidInteger, {"value": page}, Setting, {"n": 1}, page=page)

    def test_of_two_faults_the_sizes_come_first(self):
        sizes = {"n": -1}
        self.refused(InvalidSetting, {"value": sizes}, Setting, sizes, page=0)
        self.refused(InvalidSetting, {"value": sizes}, Setting, page=None, sizes=sizes)

    def test_dict_that_was_refused_stays_as_it_was(self):
        sizes = {"n": 1, "m": -1}
        self.refused(InvalidSetting, {"value": sizes}, Setting, sizes)
        self.assertEqual(sizes, {"n": 1, "m": -1})

    def test_dict_that_was_passed_may_change(self):
        sizes = {"n": 1}
        setting = Setting(sizes)
        self.assertEqual(sizes, {"n": 1})
        sizes["n"] = 2
        sizes["m"] = 3
        self.assertEqual((setting.sizes(), setting["n"], "m" in setting), ({"n": 1}, 1, False))

    def test_dict_that_was_told_may_change(self):
        setting = Setting({"n": 1})
        setting.sizes().clear()
        setting.sizes()["m"] = 3
        self.assertEqual((setting.sizes(), setting["n"], "m" in setting), ({"n": 1}, 1, False))

    def test_never_changes(self):
        setting = Setting({"n": 1}, page=16)
        with self.assertRaises(AttributeError):
            setting.page = 8
        with self.assertRaises(TypeError):
            setting["n"] = 2
        self.assertEqual(setting, Setting({"n": 1}, page=16))

    def test_repr_is_a_string(self):
        self.assertIsInstance(repr(Setting({"n": 1, "m": 2})), str)


class TestValues(Checks):
    def test_example_of_the_document(self):
        setting = Setting({"n": 40}, page=16)
        found = [setting["n+2"], setting[3], setting.same_page("n", "n+3"), setting.same_page("n-3", 3)]
        self.assertEqual([*found, "m" in setting], [42, 3, True, False, False])

    def test_places_in_all_forms(self):
        setting = Setting({"n": 40, "m": 7})
        for shift in range(-3, 4):
            place = Place("n", shift=shift)
            self.assertEqual([setting[place], setting[str(place)]], [40 + shift, 40 + shift])
            self.assertEqual(setting[Place("m", shift=shift)], 7 + shift)
        for number in range(4):
            self.assertEqual([setting[number], setting[str(number)], setting[Place(shift=number)]], [number] * 3)

    def test_values_below_zero(self):
        setting = Setting({"n": 0, "m": 2})
        self.assertEqual([setting["n-3"], setting["n-1"], setting["m-3"], setting["n"]], [-3, -1, -1, 0])

    def test_great_values(self):
        setting = Setting({"n": SIXTY_DIGITS})
        self.assertEqual([setting["n+3"], setting["n-3"]], [SIXTY_DIGITS + 3, SIXTY_DIGITS - 3])

    def test_numbers_need_no_unknown(self):
        self.assertEqual([Setting({})[3], Setting({})["0"]], [3, 0])

    def test_values_that_are_no_places(self):
        setting = Setting({"n": 40})
        for value in values_of_no_text() + ["", "n+0", "n+4", "+1", "4", 4, -1, SIXTY_DIGITS]:
            self.refused(InvalidPlace, {"value": value}, lambda: setting[value])

    def test_places_of_unknowns_without_a_size(self):
        for setting in [Setting({}), Setting({"n": 40})]:
            for value in ["m", "m+1", "nn", Place("m"), Place("m", shift=-3)]:
                self.refused(InvalidPlace, {"value": value}, lambda: setting[value])

    def test_not_gone_through(self):
        with self.assertRaises(TypeError):
            list(Setting({"n": 1}))


class TestIn(Checks):
    def test_unknowns(self):
        setting = Setting({"n": 0, "abcdef": 1})
        for value, wanted in [("n", True), ("abcdef", True), ("m", False), ("", False), ("n+1", False), ("0", False)]:
            self.assertIs(value in setting, wanted, value)
        self.assertIs("n" in Setting({}), False)

    def test_other_values(self):
        setting = Setting({"n": 0})
        for value in values_of_no_text() + [0, 3, Place("n"), Place("n", shift=1), SIXTY_DIGITS]:
            self.assertIs(value in setting, False, value)


class TestSamePage(Checks):
    def test_against_a_walk_over_pages(self):
        for page in range(1, 9):
            for size in range(20):
                setting = Setting({"n": size}, page=page)
                for shift in range(-3, 4):
                    first = [k for k in range(-8, 40) if k % page == 0 and k <= size][-1]
                    wanted = first <= size + shift < first + page
                    self.assertIs(setting.same_page("n", Place("n", shift=shift)), wanted, (page, size, shift))

    def test_page_size_one(self):
        setting = Setting({"n": 5, "m": 5}, page=1)
        found = [setting.same_page(*two) for two in [("n", "n"), ("n", "n+1"), ("n+1", "m+1"), (0, "0"), (0, 1)]]
        self.assertEqual(found, [True, False, True, True, False])

    def test_below_zero_is_another_page(self):
        setting = Setting({"n": 0}, page=SIXTY_DIGITS)
        found = [setting.same_page(*two) for two in [("n-1", 0), ("n-1", "n-3"), ("n", 3)]]
        self.assertEqual(found, [False, True, True])

    def test_great_sizes(self):
        setting = Setting({"n": 10 ** 59, "m": 10 ** 59 - 1}, page=10 ** 58)
        found = [setting.same_page(*two) for two in [("n", "m"), ("n", "m+1"), ("m", "n-1"), ("m", 0)]]
        self.assertEqual(found, [False, True, True, False])

    def test_by_name(self):
        self.assertIs(Setting({"n": 40}).same_page(other=3, place="n"), False)

    def test_wrong_places(self):
        setting = Setting({"n": 40})
        for value in values_of_no_text() + ["n+0", "4", 4, "m", Place("m")]:
            self.refused(InvalidPlace, {"value": value}, setting.same_page, value, "n")
            self.refused(InvalidPlace, {"value": value}, setting.same_page, "n", value)
            self.refused(InvalidPlace, {"value": value}, setting.same_page, value, ["another"])

    def test_of_two_faults_the_place_comes_first(self):
        unknown = Place("m")
        self.refused(InvalidPlace, {"value": unknown}, Setting({"n": 40}).same_page, other=None, place=unknown)


class TestEqual(Checks):
    def test_by_sizes_and_page(self):
        one = Setting({"n": 1, "m": 2}, page=16)
        self.assertTrue(one == Setting({"m": 2, "n": 1}, page=16))
        for other in [
            Setting({"n": 1, "m": 2}), Setting({"n": 1, "m": 3}, page=16), Setting({"n": 1}, page=16),
            Setting({"n": 1, "k": 2}, page=16), Setting({"n": 2, "m": 1}, page=16), Setting({}, page=16),
        ]:
            self.assertIs(one == other, False)
            self.assertIs(one != other, True)
        self.assertTrue(Setting({}) == Setting({}, page=32))

    def test_to_no_other_class(self):
        setting = Setting({"n": 1})
        for value in [None, True, 1, 32, "n", {"n": 1}, [setting], (setting,), Place("n"), {}]:
            self.assertIs(setting == value, False)
            self.assertIs(value == setting, False)
