"""[22]: facts."""

from mapsizes.errors import InvalidFact, InvalidFacts, InvalidSetting
from mapsizes.facts import Facts
from mapsizes.places import Place, is_place
from mapsizes.settings import Setting
from tests.helper import (
    PLACES_OF_N, SIXTY_DIGITS, Checks, any_values, keeps_plainly, value_of, values_of_no_text,
)

SIXTEEN = [("at_most", number, place) for number in (0, 1) for place in PLACES_OF_N] + [("page", "m"), ("page", 0)]


def wrong_rows():
    found = any_values() + [
        ("at_most",), ("at_most", "n"), ("at_most", "n", "m", "k"), ("page",), ("page", "n", "m"), ("at_least", "n", 1),
        ("n", "at_most", "n"), ("At_most", "n", 1), ("at_most ", "n", 1), ("PAGE", "n"), ("", "n"), ("pages", "n"),
        (1, "n"), (None, "n"), (["page"], "n"), (("page",), "n"), ({}, "n"), (Place("page"), "n"), (True, 1, 2),
        ["at_most", "n", 1], ["page", "n"], {"page": "n"}, "page", ("page", ["n"]), ("page", ("n",)),
    ]
    for value in [value for value in any_values() if not is_place(value)] + [4, "n+0"]:
        found += [("page", value), ("at_most", value, "n"), ("at_most", "n", value)]
    return found


class TestMaking(Checks):
    def test_example_of_the_document(self):
        setting = Setting({"n": 40}, page=16)
        facts = Facts(("at_most", 1, "n"), ("page", "n"))
        found = [facts.holds(setting), facts.holds(Setting({"n": 48}, page=16)), len(facts), facts.unknowns()]
        self.assertEqual(found, [False, True, 2, ["n"]])

    def test_rows_have_places(self):
        one = Facts(("at_most", 1, "n"), ("page", "m-2"), ("at_most", Place("m"), "3"), ("page", 0))
        n, m = Place("n"), Place("m")
        wanted = [
            ("at_most", Place(shift=1), n), ("page", m - 2), ("at_most", m, Place(shift=3)), ("page", Place()),
        ]
        self.assertEqual(one.rows(), wanted)
        for row in one.rows():
            self.assertIs(type(row), tuple)
            self.assertTrue(all(isinstance(item, Place) for item in row[1:]))
        self.assertEqual([len(one), one.unknowns()], [4, ["m", "n"]])

    def test_without_rows(self):
        self.assertEqual([Facts().rows(), Facts().unknowns(), len(Facts())], [[], [], 0])

    def test_sixteen_rows_and_repeated_ones(self):
        facts = Facts(*SIXTEEN)
        self.assertEqual([len(facts), facts.unknowns()], [16, ["m", "n"]])
        self.assertEqual(len(Facts(("page", "n"), ("page", "n"))), 2)

    def test_rows_about_numbers_alone(self):
        facts = Facts(("at_most", 3, 2), ("page", 3))
        self.assertEqual([len(facts), facts.unknowns()], [2, []])

    def test_unknowns_ascend(self):
        self.assertEqual(Facts(("at_most", "zz", "b")).unknowns(), ["b", "zz"])
        self.assertEqual(Facts(("page", "b"), ("at_most", "b+1", "aa-1"), ("page", "aa")).unknowns(), ["aa", "b"])

    def test_wrong_rows(self):
        for row in wrong_rows():
            self.refused(InvalidFact, {"value": row}, Facts, row)
            self.refused(InvalidFact, {"value": row}, Facts, ("page", "n"), row)

    def test_the_first_wrong_row_is_told(self):
        one, other = ("page", 4), ["page", "n"]
        self.refused(InvalidFact, {"value": one}, Facts, ("page", "n"), one, other)
        self.refused(InvalidFact, {"value": other}, Facts, other, one)

    def test_more_than_two_unknowns(self):
        rows = (("page", "n"), ("page", "m+1"), ("page", "k"))
        with self.assertRaises(InvalidFacts) as caught:
            Facts(*rows)
        self.assertEqual(caught.exception.value, rows)
        self.assertIs(type(caught.exception.value), tuple)
        self.assertTrue(all(found is row for found, row in zip(caught.exception.value, rows)))

    def test_a_wrong_row_comes_ahead_of_the_unknowns(self):
        row = ("page", 4)
        self.refused(InvalidFact, {"value": row}, Facts, ("page", "n"), ("page", "m"), ("page", "k"), row)

    def test_what_was_told_may_change(self):
        facts = Facts(("page", "n"))
        facts.rows().clear()
        facts.rows()[0] = None
        facts.unknowns().append("m")
        self.assertEqual([facts.rows(), facts.unknowns(), len(facts)], [[("page", Place("n"))], ["n"], 1])

    def test_a_list_of_rows_that_was_passed_may_change(self):
        rows = [("page", "n")]
        facts = Facts(*rows)
        rows.append(("page", 3))
        self.assertEqual(facts.rows(), [("page", Place("n"))])

    def test_repr_is_a_string(self):
        for facts in [Facts(), Facts(("page", "n")), Facts(("page", "n"), ("at_most", 1, 2))]:
            self.assertIsInstance(repr(facts), str)


class TestHolds(Checks):
    def test_each_row_over_many_settings(self):
        places = ["n-3", "n", "n+2", "m-1", "m", 0, 2]
        rows = [("at_most", one, other) for one in places for other in places] + [("page", one) for one in places]
        for page in (1, 2, 3, 31, 32):
            for sizes in ({"n": n, "m": m} for n in (0, 1, 2, 3, 30, 31, 32, 34, 64) for m in (0, 1, 3, 29, 33, 62)):
                setting = Setting(sizes, page=page)
                for row in rows:
                    self.assertIs(Facts(row).holds(setting), keeps_plainly([row], sizes, page), (row, setting))

    def test_all_rows_are_kept(self):
        rows = [("at_most", 2, "n"), ("at_most", "n", "m"), ("page", "m+1")]
        facts = Facts(*rows)
        found = []
        for n in range(9):
            for m in range(9):
                sizes = {"n": n, "m": m}
                found.append(facts.holds(Setting(sizes, page=4)))
                self.assertIs(found[-1], keeps_plainly(rows, sizes, 4), sizes)
        self.assertEqual(found.count(True), 8)

    def test_no_rows_hold_everywhere(self):
        for setting in [Setting({}), Setting({"n": 0, "m": SIXTY_DIGITS}, page=1)]:
            self.assertIs(Facts().holds(setting), True)
            self.assertIs(Facts(("at_most", 1, 1), ("page", 0)).holds(setting), True)
            self.assertIs(Facts(("at_most", 2, 1)).holds(setting), False)

    def test_values_below_zero(self):
        self.assertEqual(value_of("n-3", {"n": 0}), -3)
        setting = Setting({"n": 0}, page=3)
        found = [Facts(row).holds(setting) for row in [("page", "n-3"), ("page", "n-2"), ("at_most", "n-1", 0)]]
        self.assertEqual(found, [True, False, True])

    def test_great_sizes(self):
        setting = Setting({"n": SIXTY_DIGITS - 1, "m": 10 ** 59}, page=10 ** 58)
        rows = [("page", "m"), ("page", "m+1"), ("page", "n"), ("at_most", "m", "n"), ("at_most", "n-3", "m+3")]
        self.assertEqual([Facts(row).holds(setting) for row in rows], [True, False, False, True, False])

    def test_more_unknowns_than_needed(self):
        self.assertIs(Facts(("page", "n")).holds(Setting({"m": 1, "n": 64})), True)

    def test_wrong_settings(self):
        facts = Facts(("at_most", "n", "m"))
        lacking = [Setting({}), Setting({"n": 1}), Setting({"m": 1, "k": 2})]
        others = [value for value in any_values() if not isinstance(value, Setting)]
        for setting in others + lacking:
            self.refused(InvalidSetting, {"value": setting}, facts.holds, setting)
            self.refused(InvalidSetting, {"value": setting}, facts.holds, setting=setting)
        for setting in others:
            self.refused(InvalidSetting, {"value": setting}, Facts().holds, setting)

    def test_a_row_that_fails_first_does_not_hide_a_lacking_size(self):
        setting = Setting({})
        self.refused(InvalidSetting, {"value": setting}, Facts(("at_most", 1, 0), ("page", "n")).holds, setting)


class TestAnd(Checks):
    def test_rows_of_both_in_order(self):
        one, other = Facts(("page", "n"), ("at_most", 1, "n")), Facts(("at_most", "m", 3), ("page", "n"))
        both = one & other
        self.assertIs(type(both), Facts)
        self.assertEqual(both.rows(), one.rows() + other.rows())
        self.assertEqual((other & one).rows(), other.rows() + one.rows())
        self.assertEqual([both.unknowns(), len(both), len(one), len(other)], [["m", "n"], 4, 2, 2])

    def test_with_facts_without_a_row(self):
        one = Facts(("page", "n"))
        self.assertEqual([one & Facts(), Facts() & one, Facts() & Facts()], [one, one, Facts()])

    def test_more_than_sixteen_rows(self):
        both = Facts(*SIXTEEN) & Facts(*SIXTEEN)
        self.assertEqual([len(both), both.holds(Setting({"n": 9, "m": 64}))], [32, True])

    def test_wrong_facts(self):
        one = Facts(("at_most", "n", "m"))
        others = [value for value in values_of_no_text() if not isinstance(value, Facts)] + [0, "n", Place("n")]
        for other in others + [Facts(("page", "k")), Facts(("at_most", "k", "n"))]:
            self.refused(InvalidFacts, {"value": other}, lambda: one & other)
        two = Facts(("at_most", "k", "l"))
        self.refused(InvalidFacts, {"value": two}, lambda: Facts(("page", "n")) & two)
        self.assertEqual([len(one), len(two)], [1, 1])

    def test_the_first_one_stays(self):
        one = first = Facts(("page", "n"))
        one &= Facts(("page", "m"))
        self.assertEqual([len(one), len(first)], [2, 1])


class TestEqual(Checks):
    def test_by_rows_in_their_order(self):
        rows = [("page", "n"), ("at_most", 1, "n")]
        self.assertTrue(Facts(*rows) == Facts(("page", Place("n")), ("at_most", "1", "n")))
        for other in [Facts(*rows[::-1]), Facts(rows[0]), Facts(*rows, rows[0]), Facts(), Facts(rows[0], rows[0])]:
            self.assertIs(Facts(*rows) == other, False)
            self.assertIs(Facts(*rows) != other, True)
        self.assertTrue(Facts() == Facts())
        self.assertFalse(Facts(("at_most", "n", 1)) == Facts(("at_most", 1, "n")))

    def test_to_no_other_class(self):
        for facts in [Facts(), Facts(("page", "n"))]:
            rows = facts.rows()
            for value in [None, False, 0, (), [], rows, tuple(rows), Setting({}), Place("n"), "", {}]:
                self.assertIs(facts == value, False)
                self.assertIs(value == facts, False)
