"""[31], [32] and what [9] says of them: kinds and cases."""

import random

from mapsizes.errors import InvalidFacts, InvalidInteger, InvalidPlace, InvalidPlaces, InvalidSetting
from mapsizes.facts import Facts
from mapsizes.kinds import case_of, cases, same_kind
from mapsizes.places import Place
from mapsizes.settings import Setting
from tests.helper import (
    PLACES_OF_M, PLACES_OF_N, SIXTY_DIGITS, Checks, any_values, keeps_plainly, plain_kind, values_of_no_text,
)

NUMBERS = [0, 1, 2, 3]
FOURTEEN = [*PLACES_OF_N, *PLACES_OF_M]
LISTS_OF_ONE = [
    [], ["n"], ["n", "n"], ["n-3"], ["n+3", "n-3"], ["n", "n+2"], ["n+1", 3], [*PLACES_OF_N, *NUMBERS],
    [*PLACES_OF_N, *PLACES_OF_N], ["n+1", "n-2", 0, "n-2"],
]
LISTS_OF_TWO = [["n", "m"], ["m+3", "n-3", 2], ["n", "n", "m+1", 0, "m-1", 3], FOURTEEN]
ROWS_OF_ONE = [
    [], [("page", "n")], [("page", "n+3")], [("at_most", "n", 3)], [("at_most", 2, "n-3")], [("page", "n-2")],
    [("at_most", 1, 2), ("page", 0)], [("at_most", 2, 1)], [("page", "n"), ("page", "n+1")],
    [("at_most", "n", "n-1")], [("at_most", "n", 1), ("at_most", 2, "n")], [("at_most", "n-1", "n+1")] * 16,
]
ROWS_OF_TWO = [
    [("at_most", "n", "m")], [("page", "n"), ("page", "m+1")], [("at_most", "n+2", "m-2"), ("at_most", "m", "n+3")],
    [("at_most", "n", "m-1"), ("at_most", "m", "n")],
    [("at_most", one, other) for one in ("n-3", "n") for other in PLACES_OF_M] + [("page", "n"), ("page", 0)],
]


def sizes_around_ends(page):
    """Sizes small and great: at the begin of the file, at and around the ends of pages, and in their midst."""
    ends = [0, page, 2 * page, 3 * page, 7 * page, (10 ** 59 // page) * page]
    found = [end + shift for end in ends for shift in (*range(-7, 8), page // 2)]
    return sorted({size for size in found if size >= 0} | {SIXTY_DIGITS})


def settings_of(unknowns, page, chosen, count):
    """Sizes for settings of this page size: all of one unknown, and some of two."""
    sizes = sizes_around_ends(page)
    if len(unknowns) < 2:
        return [{name: size for name in unknowns} for size in sizes]
    found = [{name: chosen.choice(sizes) for name in unknowns} for _ in range(count)]
    one, other = unknowns
    for setting in found[::2]:
        setting[other] = max(0, setting[one] + chosen.randrange(-9, 10))
    return found


class TestSameKind(Checks):
    def test_example_of_the_document(self):
        far, near = Setting({"n": 10 ** 30 + 5}, page=4096), Setting({"n": 70})
        places = ["n", "n+2"]
        others = [far, Setting({"n": 95}), Setting({"n": 2})]
        self.assertEqual([same_kind(near, other, places) for other in others], [True, False, False])
        self.assertIs(same_kind(far, near, places), True)

    def test_against_the_words_of_the_document(self):
        chosen = random.Random(1)
        for places in LISTS_OF_ONE + LISTS_OF_TWO:
            found = []
            for page in (1, 2, 3, 5, 8, 31, 32, 33, 4096, 10 ** 58):
                for sizes in chosen.sample(settings_of(["n", "m"], page, chosen, 40), 5):
                    found.append((Setting(sizes, page=page), plain_kind(places, sizes, page)))
            for one, kind in found:
                for other, kind_of_other in found:
                    self.assertIs(same_kind(one, other, places), kind == kind_of_other, (one, other, places))

    def test_each_thing_that_is_compared(self):
        for one, other, places, wanted in [
            # Less in one and not in the other.
            (({"n": 9}, 99), ({"n": 2}, 99), ["n-3", 3], False),
            (({"n": 6}, 99), ({"n": 7}, 99), ["n-3", 3], False),
            (({"n": 7}, 99), ({"n": 8}, 99), ["n-3", 3], True),
            (({"n": 5, "m": 5}, 99), ({"n": 5, "m": 6}, 99), ["n", "m"], False),
            (({"n": 5, "m": 4}, 99), ({"n": 5, "m": 6}, 99), ["n", "m"], False),
            # One page, and two.
            (({"n": 9, "m": 50}, 64), ({"n": 9, "m": 50}, 32), ["n", "m"], False),
            (({"n": 9}, 64), ({"n": 70}, 64), ["n"], False),
            (({"n": 70}, 64), ({"n": 190}, 64), ["n"], True),
            # The integer ahead of a place.
            (({"n": 64}, 64), ({"n": 65}, 64), ["n"], False),
            (({"n": 128}, 64), ({"n": 129}, 64), ["n"], False),
            (({"n": 128}, 64), ({"n": 192}, 64), ["n"], True),
            (({"n": 64}, 64), ({"n": 128}, 64), ["n"], False),
            (({"n": 64, "m": 3}, 64), ({"n": 128, "m": 3}, 64), ["n", "m"], False),
            (({"n": 128, "m": 70}, 64), ({"n": 192, "m": 70}, 64), ["n", "m"], False),
            (({"n": 0}, 64), ({"n": 99}, 64), [], True),
        ]:
            one, other = [Setting(sizes, page=page) for sizes, page in (one, other)]
            self.assertIs(same_kind(one, other, places), wanted, (one, other, places))
            self.assertIs(same_kind(other, one, places), wanted, (one, other, places))

    def test_unlike_page_sizes_and_more_unknowns(self):
        one, other = Setting({"n": 3, "k": 8}, page=4), Setting({"m": 9, "n": 30}, page=31)
        self.assertIs(same_kind(one, other, ["n+1"]), True)
        self.assertIs(same_kind(one, other, ["n", "n-3"]), False)

    def test_places_in_all_forms(self):
        one, other = Setting({"n": 3}), Setting({"n": 4})
        for places in [["n", 3], ("n", "3"), [Place("n"), Place(shift=3)], (Place("n"), 3)]:
            self.assertIs(same_kind(one, other, places), False)
        self.assertIs(same_kind(places=["n"], other=other, one=one), True)

    def test_wrong_settings(self):
        for value in [value for value in any_values() if not isinstance(value, Setting)]:
            self.refused(InvalidSetting, {"value": value}, same_kind, value, "n", "n")
            self.refused(InvalidSetting, {"value": value}, same_kind, Setting({}), value, "n")

    def test_wrong_places(self):
        one = Setting({"n": 1, "m": 2})
        no_lists = [value for value in any_values() if not isinstance(value, (list, tuple))]
        wrong_items = [["n", value] for value in [None, True, 4, -1, "n+0", ("n",), [], {}]]
        for places in [*no_lists, *wrong_items, ["n"] * 15, tuple(FOURTEEN + ["n"]), ["k", "n+4"], ("n", 1.0)]:
            self.refused(InvalidPlaces, {"value": places}, same_kind, one, one, places)

    def test_places_of_unknowns_without_a_size(self):
        both, alone = Setting({"n": 1, "m": 2}), Setting({"n": 1})
        unknown, other = Place("m"), Place("k")
        self.refused(InvalidPlace, {"value": unknown}, same_kind, both, alone, ["n", 3, unknown, other])
        self.refused(InvalidPlace, {"value": unknown}, same_kind, alone, both, ("n", unknown, "m"))
        self.refused(InvalidPlace, {"value": other}, same_kind, both, both, [other, unknown])
        for text in ["m", "m+1"]:
            self.refused(InvalidPlace, {"value": text}, same_kind, alone, both, ["n", text, other])
            self.refused(InvalidPlace, {"value": text}, same_kind, both, alone, ["n", text, other])

    def test_what_was_passed_stays(self):
        places = ["n", 3, Place("n")]
        same_kind(Setting({"n": 1}), Setting({"n": 2}), places)
        self.assertEqual(places, ["n", 3, Place("n")])
        with self.assertRaises(InvalidPlace):
            same_kind(Setting({}), Setting({}), places)
        self.assertEqual(places, ["n", 3, Place("n")])


class TestCases(Checks):
    def test_example_of_the_document(self):
        far, some = Setting({"n": 10 ** 30 + 5}, page=4096), cases(["n", "n+2"])
        self.assertEqual(len([one for one in some if same_kind(one, far, ["n", "n+2"])]), 1)
        self.assertIs(case_of(far, ["n", "n+2"]) in some, True)
        self.assertEqual(cases(["n"], Facts(("at_most", "n+1", 0))), [])

    def test_of_no_and_of_one_unknown(self):
        chosen = random.Random(2)
        for page in (None, 1, 2, 3, 4, 5, 7, 30, 31):
            for places in LISTS_OF_ONE:
                for rows in ROWS_OF_ONE:
                    self.promises(places, rows, page, chosen)

    def test_of_two_unknowns(self):
        chosen = random.Random(3)
        for places in LISTS_OF_TWO + [["n"], [0]]:
            for rows in ROWS_OF_TWO:
                self.promises(places, rows, None, chosen)
        for places in LISTS_OF_TWO:
            for rows in ROWS_OF_ONE[:6]:
                self.promises(places, rows, None, chosen)

    def promises(self, places, rows, page, chosen):
        facts = Facts(*rows)
        found = cases(places, facts, page=page)
        self.assertIs(type(found), list)
        self.assertEqual(found, cases(tuple(places), facts, page=page))
        together = [*places, *[place for row in rows for place in row[1:]]]
        unknowns = sorted({place[0] for place in together if isinstance(place, str)})
        by_kind = {}
        for case in found:
            sizes = case.sizes()
            self.assertEqual([sorted(sizes), case.page], [unknowns, 32 if page is None else page])
            self.assertTrue(all(0 <= size < 200 for size in sizes.values()), case)
            self.assertTrue(keeps_plainly(rows, sizes, case.page), case)
            by_kind[plain_kind(together, sizes, case.page)] = case
        self.assertEqual(len(by_kind), len(found))
        for great in [page] if page else [32, 33, 40, 4096, 10 ** 58 + 1]:
            for sizes in settings_of(unknowns, great, chosen, 12):
                setting = Setting({**sizes, **({} if len(unknowns) == 2 else {"k": 5})}, page=great)
                if keeps_plainly(rows, sizes, great):
                    self.assertIn(plain_kind(together, sizes, great), by_kind, (setting, rows))
                    case = by_kind[plain_kind(together, sizes, great)]
                    if chosen.randrange(6) == 0:
                        self.assertEqual(case_of(setting, places, facts, page=page), case)
                elif chosen.randrange(6) == 0:
                    self.refused(InvalidSetting, {"value": setting}, case_of, setting, places, facts, page=page)

    def test_all_small_settings_of_two_unknowns(self):
        numbers = Facts(*[("at_most", 0, number) for number in (1, 2, 3)])
        found = {plain_kind(FOURTEEN + NUMBERS, case.sizes(), 32) for case in cases(FOURTEEN, numbers)}
        for page, sizes in [(32, range(0, 140)), (35, [k for k in range(0, 145) if not 11 < k % 35 < 25])]:
            for n in sizes:
                for m in sizes[n % 3::3]:
                    self.assertIn(plain_kind(FOURTEEN + NUMBERS, {"n": n, "m": m}, page), found, (n, m, page))

    def test_how_many_there_are(self):
        # Seven at the begin of the file, seven around each of two ends of pages, and the midst of two pages.
        self.assertEqual(len(cases([*PLACES_OF_N, *NUMBERS])), 23)
        self.assertEqual([len(cases([])), len(cases(NUMBERS)), len(cases(["n"]))], [1, 1, 5])
        self.assertEqual([len(cases(["n"], page=1)), len(cases([2, 3], page=3))], [3, 1])

    def test_without_an_unknown(self):
        self.assertEqual(cases([]), [Setting({})])
        self.assertEqual(cases([0, 3], Facts(("at_most", 1, 2)), page=2), [Setting({}, page=2)])
        self.assertEqual(cases([], Facts(("page", 2)), page=2), [Setting({}, page=2)])
        self.assertEqual([cases([], Facts(("page", 2))), cases([], Facts(("at_most", 2, 1)))], [[], []])
        self.assertEqual(case_of(Setting({"n": 7, "m": 3}, page=99), [2]), Setting({}))

    def test_unknowns_of_the_facts_alone(self):
        found = cases(["n"], Facts(("at_most", "m", 1)))
        self.assertEqual({tuple(sorted(case.sizes())) for case in found}, {("m", "n")})
        self.assertEqual({case["m"] for case in found}, {0, 1})
        self.assertEqual({tuple(case.sizes()) for case in cases([], Facts(("page", "k")), page=5)}, {("k",)})

    def test_equal_arguments_give_equal_results(self):
        far = Setting({"n": SIXTY_DIGITS}, page=4096)
        for page in (None, 7):
            wanted = cases(["n", 2], page=page)
            setting = far if page is None else Setting({"n": SIXTY_DIGITS}, page=7)
            case = case_of(setting, ["n", 2], page=page)
            for places in [["n", 2], ("n", 2)]:
                for facts in [None, Facts()]:
                    self.assertEqual(cases(places, facts, page=page), wanted)
                    self.assertEqual(cases(places=places, facts=facts, page=page), wanted)
                    self.assertEqual(case_of(setting, places, facts, page=page), case)
                    named = {"places": places, "facts": facts, "page": page, "setting": setting}
                    self.assertEqual(case_of(**named), case)
            self.assertIn(case, wanted)

    def test_cases_of_great_settings_are_among_the_cases(self):
        chosen = random.Random(4)
        for places in [["n", "m"], FOURTEEN]:
            found = cases(places, Facts(("at_most", "n", "m")))
            for sizes in settings_of(["n", "m"], 10 ** 57 + 3, chosen, 60):
                setting = Setting(sizes, page=10 ** 57 + 3)
                if sizes["n"] <= sizes["m"]:
                    case = case_of(setting, places, Facts(("at_most", "n", "m")))
                    self.assertIn(case, found)
                    self.assertTrue(same_kind(setting, case, places))

    def test_lists_that_were_told_or_passed_may_change(self):
        places = ["n", Place("n", shift=1)]
        wanted = cases(places)
        self.assertEqual(places, ["n", Place("n", shift=1)])
        found = cases(places)
        found.clear()
        self.assertEqual(cases(places), wanted)
        places[1] = 3
        self.assertNotEqual(cases(places), wanted)

    def test_wrong_places(self):
        setting = Setting({"n": 1})
        no_lists = [value for value in any_values() if not isinstance(value, (list, tuple))]
        for places in [*no_lists, ["n", None], ["n+4"], [True], ["n"] * 15, ("n",) * 15, [["n"]]]:
            self.refused(InvalidPlaces, {"value": places}, cases, places, 0, page=0)
            self.refused(InvalidPlaces, {"value": places}, case_of, setting, places, 0, page=0)

    def test_wrong_facts(self):
        others = [value for value in any_values() if not (value is None or isinstance(value, Facts))]
        for facts in others + [[("page", "n")]]:
            self.refused(InvalidFacts, {"value": facts}, cases, ["n", "m", "k"], facts, page=0)
            self.refused(InvalidFacts, {"value": facts}, case_of, Setting({}), ["n", "m", "k"], facts, page=0)

    def test_wrong_page_sizes(self):
        for page in values_of_no_text()[1:] + [0, 32, -1, SIXTY_DIGITS, "7", ""]:
            self.refused(InvalidInteger, {"value": page}, cases, ["n", "m", "k"], page=page)
            self.refused(InvalidInteger, {"value": page}, case_of, Setting({}), ["n", "m", "k"], page=page)

    def test_too_many_unknowns(self):
        facts = Facts(("at_most", "m", "k"))
        for places, known, page in [
            (["n", "m", "k"], None, None), (("n",), facts, None), (["n", "m"], None, 31), (["m"], facts, 1),
            ([], facts, 31), (["n"], Facts(("page", "m")), 2),
        ]:
            self.refused(InvalidPlaces, {"value": places}, cases, places, known, page=page)
            self.refused(InvalidPlaces, {"value": places}, case_of, Setting({}), places, known, page=page)
        self.assertNotEqual(cases(["m"], facts), [])

    def test_wrong_settings(self):
        for value in [value for value in any_values() if not isinstance(value, Setting)]:
            self.refused(InvalidSetting, {"value": value}, case_of, value, None, 0, page=0)
        facts = Facts(("at_most", 2, "n"), ("at_most", "n", "m+3"))
        for setting, page in [
            (Setting({}), None), (Setting({"n": 2}), None), (Setting({"m": 2}), None),
            (Setting({"n": 1, "m": 9}), None), (Setting({"n": 9, "m": 5}), None),
            (Setting({"n": 2, "m": 2}, page=31), None),
            (Setting({"n": 2, "m": 2}, page=1), None),
        ]:
            self.refused(InvalidSetting, {"value": setting}, case_of, setting, ["n"], facts, page=page)
        for setting, page in [
            (Setting({"n": 4}, page=8), 4), (Setting({"n": 4}), 31), (Setting({"n": 4}, page=31), None),
            (Setting({"n": 3}, page=4), 4), (Setting({"m": 4}, page=4), 4),
        ]:
            self.refused(InvalidSetting, {"value": setting}, case_of, setting, [], Facts(("page", "n")), page=page)
        for sizes, places in [({}, ["n"]), ({"m": 4}, ["n", 0]), ({"n": 4}, ["n", "m"])]:
            for known in (None, Facts(), Facts(("at_most", 0, 1))):
                setting = Setting(sizes)
                self.refused(InvalidSetting, {"value": setting}, case_of, setting, places, known)
        self.assertEqual(case_of(Setting({"n": 8}, page=4), [], Facts(("page", "n")), page=4)["n"] % 4, 0)
