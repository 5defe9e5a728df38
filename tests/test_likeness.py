"""[101], [102] and what [9] says of them: programs alike."""

import random

from mapsizes.errors import InvalidInteger, InvalidProgram, InvalidSetting
from mapsizes.facts import Facts
from mapsizes.likeness import alike, alike_at, same_pages, with_page
from mapsizes.outcomes import cases_of, outcomes
from mapsizes.programs import Program
from mapsizes.settings import Setting
from mapsizes.weavings import outcomes_at
from tests.helper import (
    PLACES_OF_M, PLACES_OF_N, SIXTY_DIGITS, Checks, all_runs, any_values, chosen_facts, chosen_program,
    chosen_setting, values_of_no_text,
)

COUNTS = [(1,), (2,), (1, 1), (2, 1), (1, 1, 1)]
PAGES = [None, None, 1, 2, 3, 31]
HASTY = Program([[("cut", 0)], [("look", "n")]], first="n+1")
CAREFUL = Program([[("cut", 0)], [("read", "n")]], first="n+1")


def outcomes_of(program, setting):
    return {outcome for outcome, _ in outcomes_at(program, setting)}


def changed(chosen, program):
    """A program like this one, with another first place, with hands exchanged, or with other steps."""
    hands = program.hands()
    way = chosen.randrange(5)
    if way == 0:
        return Program(hands, first=chosen.choice(program.places()), facts=program.facts, page=program.page)
    if way == 1:
        return Program(hands[::-1], first=program.first, facts=program.facts, page=program.page)
    words = {"read": "look", "look": "read"}
    steps = [[step for step in hand] for hand in hands]
    for hand in steps:
        for index, step in enumerate(hand):
            if step[0] in words and chosen.randrange(2):
                hand[index] = (words[step[0]], step[1])
            elif way == 2 and step[0] == "cut":
                hand[index] = ("cut", chosen.choice(program.places()))
    return Program(steps, first=program.first, facts=program.facts, page=program.page)


def pairs(seed, count):
    chosen = random.Random(seed)
    for number in range(count):
        page = chosen.choice(PAGES)
        two = page is None and number % 2 == 0
        facts = chosen_facts(chosen, two)
        counts = chosen.choice(COUNTS)
        one = chosen_program(chosen, counts, two=two, page=page, facts=facts, pools=(2, 3))
        if number % 3:
            yield chosen, one, changed(chosen, one)
        else:
            yield chosen, one, chosen_program(chosen, counts, two=two, page=page, facts=facts, pools=(2, 3))


def common_settings(chosen, one, other, count):
    """Settings of both programs, small and great."""
    hands = [[("sync", place, place) for place in program.places()] for program in (one, other)]
    both = Program(hands, first=one.first, facts=one.facts, page=one.page)
    found = [chosen_setting(chosen, both, great=number % 2 == 1) for number in range(count)]
    return [setting for setting in [*found, *cases_of(both)] if setting is not None]


class TestAlike(Checks):
    def test_against_many_settings(self):
        same, unlike = 0, 0
        for chosen, one, other in pairs(41, 150):
            found = alike(one, other)
            settings = common_settings(chosen, one, other, 8)
            for setting in settings:
                equal = outcomes_of(one, setting) == outcomes_of(other, setting)
                self.assertIs(alike_at(one, other, setting), equal)
                self.assertIs(alike_at(other, one, setting), equal)
                if found is None:
                    self.assertTrue(equal)
            same += found is None
            unlike += found is not None
            self.assertEqual(alike(other, one) is None, found is None)
            if found is not None:
                self.alone(one, other, found)
        self.assertGreater(same, 30)
        self.assertGreater(unlike, 40)

    def alone(self, one, other, found):
        self.assertIs(type(found), tuple)
        setting, outcome, index = found
        self.assertTrue(one.allows(setting) and other.allows(setting))
        self.assertEqual(setting.page, one.page or 32)
        self.assertLess(max([0, *setting.sizes().values()]), 200)
        has = [outcome in {run.outcome() for _, run in all_runs(program, setting) if not run.ready()}
               for program in (one, other)]
        self.assertEqual(has, [index == 0, index == 1])
        self.assertNotIsInstance(index, bool)

    def test_examples_of_the_document(self):
        self.assertIsNone(alike(HASTY, HASTY))
        self.assertIs(alike_at(HASTY, CAREFUL, Setting({"n": 5}, page=99)), False)
        found = alike(HASTY, CAREFUL)
        self.alone(HASTY, CAREFUL, found)
        self.assertIn(found[1], [(("done",), ("fails",)), (("done",), ("end",))])

    def test_one_that_has_an_outcome_more(self):
        more = Program([[("cut", 0)], [("cut", "n")], [("test", 0)]], first="n")
        less = Program([[("cut", "n")], [("cut", "n")], [("test", 0)]], first="n")
        for one, other, index in [(more, less, 0), (less, more, 1)]:
            setting, outcome, told = alike(one, other)
            self.assertEqual([outcome[2], told], [("end",), index])
            self.assertGreater(setting["n"], 0)
        zero = Setting({"n": 0}, page=10 ** 59)
        self.assertIs(alike_at(more, less, zero), True)
        self.assertIs(alike_at(more, less, Setting({"n": 10 ** 59 - 1}, page=10 ** 59)), False)

    def test_unlike_places_and_first_places(self):
        one = Program([[("test", "n")]], first="n+1")
        for other, wanted in [
            (Program([[("test", "n+1")]], first="n+2"), True), (Program([[("test", 0)]], first=1), True),
            (Program([[("test", 1)]], first=1), False), (Program([[("test", "m-3")]], first="m+3"), True),
            (Program([[("test", "n")]], first="n"), False), (Program([[("test", "m")]], first="n+1"), False),
            (Program([[("test", "n-3")]], first="n-2"), True),
        ]:
            self.assertEqual(alike(one, other) is None, wanted, other)
        # Of these two, the second has settings with n from 3 on alone.
        late, early = Program([[("test", "n-3")]], first="n"), Program([[("test", 2)]], first="n")
        self.assertIsNone(alike(late, early))
        self.refused(InvalidSetting, {"value": None}, alike_at, late, early, None)

    def test_hands_exchanged(self):
        one = Program([[("cut", "n")], [("test", "n")]], first="n+1")
        other = Program([[("test", "n")], [("cut", "n")]], first="n+1")
        self.assertEqual(alike(one, other)[2] in (0, 1), True)
        twins = [[("cut", "n")], [("cut", "n")]]
        self.assertIsNone(alike(Program(twins, first="n"), Program(twins[::-1], first=0)))
        self.assertIsNotNone(alike(Program([[]], first="n"), Program([[], []], first="n")))

    def test_page_sizes_decide(self):
        for page, wanted in [(None, True), (1, False), (2, False), (3, True), (31, True)]:
            one = Program([[("store", 2, "x")]], first=1, page=page)
            other = Program([[("cut", 1)]], first=1, page=page)
            self.assertEqual(alike(one, other) is None, wanted)

    def test_without_common_settings(self):
        facts = Facts(("at_most", "n", 1))
        one = Program([[("cut", "n-2")]], first="n", facts=facts)
        other = Program([[("test", "n")]], first="n", facts=facts)
        self.assertIsNone(alike(one, other))
        self.refused(InvalidSetting, {"value": other}, alike_at, one, other, other)
        setting = Setting({"n": 1})
        self.refused(InvalidSetting, {"value": setting}, alike_at, one, other, setting)
        self.refused(InvalidSetting, {"value": setting}, alike_at, other, one, setting)

    def test_settings_with_further_unknowns(self):
        one, other = Program([[("test", "n")]], first="n+1"), Program([[("test", "m")]], first="n+1")
        self.assertIs(alike_at(one, one, Setting({"n": 3, "m": 4})), True)
        self.assertIs(alike_at(one, other, Setting({"n": 3, "m": 3}, page=SIXTY_DIGITS)), True)
        self.assertIs(alike_at(setting=Setting({"n": 3, "m": 4}), other=other, one=one), False)
        setting = Setting({"n": 3})
        self.refused(InvalidSetting, {"value": setting}, alike_at, one, other, setting)
        self.assertEqual(sorted(alike(other=other, one=one)[0].sizes()), ["m", "n"])
        known = Program([[("test", "n")]], first="n", facts=Facts(("at_most", 1, "k")))
        twin = Program([[("look", "n-1")]], first="n", facts=Facts(("at_most", 1, "k")))
        self.assertEqual(sorted(alike(known, twin)[0].sizes()), ["k", "n"])

    def test_programs_that_cannot_be_compared(self):
        facts = Facts(("at_most", 1, "n"))
        one = Program([[("test", "n")]], first="n")
        places = [("sync", place, place) for place in PLACES_OF_N + PLACES_OF_M]
        full = Program([places[:7]], first="n")
        for left, other in [
            (one, Program([[("test", "n")]], first="n", facts=facts)), (one, with_page(one, 31)),
            (with_page(one, 1), with_page(one, 2)), (with_page(one, 31), one),
            (Program([[("test", "n")]], first="m"), Program([[("test", "k")]], first="m")),
            (with_page(one, 8), Program([[("test", "m")]], first="m", page=8)),
            (full, Program([[*places[7:]], [("test", 0)]], first="m")),
        ]:
            self.refused(InvalidProgram, {"value": other}, alike, left, other)
            self.refused(InvalidProgram, {"value": left}, alike, other, left)
            self.refused(InvalidProgram, {"value": other}, alike_at, left, other, None)
        self.assertIsNone(alike(full, Program([places[:7]], first="n+3")))
        # The places of the facts count, too.
        numbers = [("at_most", 0, 1), ("at_most", 2, 3)]
        half = Program([places[:6]], first="n", facts=Facts(*numbers))
        self.assertIsNone(alike(half, half))
        other = Program([places[7:12]], first="m", facts=Facts(*numbers))
        self.refused(InvalidProgram, {"value": other}, alike, half, other)
        third = Facts(("at_most", "n", "k"))
        other = Program([[("test", "k")]], first="n", facts=third)
        self.assertIsNone(alike(Program([[("test", "n")]], first="n", facts=third), other))

    def test_wrong_programs_and_settings(self):
        for value in [value for value in any_values() if not isinstance(value, Program)]:
            self.refused(InvalidProgram, {"value": value}, alike, value, None)
            self.refused(InvalidProgram, {"value": value}, alike, HASTY, value)
            self.refused(InvalidProgram, {"value": value}, alike_at, value, None, None)
            self.refused(InvalidProgram, {"value": value}, alike_at, HASTY, value, None)
        settings = [value for value in any_values() if not isinstance(value, Setting)]
        for value in settings + [Setting({}), Setting({"m": 3}), Setting({"n": 3}, page=31)]:
            self.refused(InvalidSetting, {"value": value}, alike_at, HASTY, CAREFUL, value)


class TestPages(Checks):
    def test_with_page(self):
        facts = Facts(("at_most", 1, "n"))
        one = Program([[("look", "n")], []], first=2, facts=facts)
        for page in (1, 2, 31, None):
            found = with_page(program=one, page=page)
            self.assertEqual(found, Program([[("look", "n")], []], first=2, facts=facts, page=page))
            self.assertEqual(with_page(found, None), one)
        self.assertIsNone(one.page)
        two = Program([[("look", "n")]], first="m")
        self.assertEqual(with_page(two, None), two)

    def test_wrong_page_sizes(self):
        two = Program([[("look", "n")]], first=1, facts=Facts(("page", "m")))
        for value in [value for value in any_values() if not isinstance(value, Program)]:
            self.refused(InvalidProgram, {"value": value}, with_page, value, 0)
            self.refused(InvalidProgram, {"value": value}, same_pages, value)
        for value in values_of_no_text()[1:] + [0, 32, -1, SIXTY_DIGITS, "7", ""]:
            self.refused(InvalidInteger, {"value": value}, with_page, two, value)
        self.refused(InvalidProgram, {"value": two}, with_page, two, 1)
        self.refused(InvalidProgram, {"value": two}, same_pages, two)

    def test_same_pages_against_all_settings(self):
        chosen, some = random.Random(42), []
        for number in range(30):
            facts = chosen_facts(chosen, False) if number % 3 == 0 else None
            program = chosen_program(chosen, chosen.choice(COUNTS), facts=facts, pools=(2, 3))
            found = same_pages(program)
            self.assertIs(type(found), list)
            large = self.reached(program, 40)
            self.assertEqual(large, {outcome for outcome, _, _ in outcomes(program)})
            self.assertEqual(found, [page for page in range(1, 32) if self.reached(program, page) == large])
            some.append(len(found))
            self.assertEqual(same_pages(with_page(program, 7)), found)
        self.assertGreater(len(set(some)), 2)

    def reached(self, program, page):
        """All outcomes at the sizes up to some pages, where the kinds begin to repeat."""
        sized = with_page(program, page if page < 32 else None)
        settings = [Setting({"n": size}, page=page) for size in range(3 * page + 14)]
        return {outcome for one in settings if sized.allows(one) for outcome in outcomes_of(sized, one)}

    def test_examples(self):
        self.assertEqual(same_pages(Program([[("cut", 1)], [("look", 2)]], first=3)), list(range(3, 32)))
        self.assertEqual(same_pages(program=Program([[("cut", 1)], [("read", 2)]], first=3)), list(range(1, 32)))
        self.assertEqual(same_pages(Program([[("look", 2)]], first=1, page=5)), list(range(3, 32)))
        self.assertEqual(same_pages(Program([[("look", "n+1")]], first="n")), list(range(3, 32)))
        # Without a page size there are no settings, and with the page sizes 1 and 2 there are.
        barred = Program([[("look", 3)]], first=1, facts=Facts(("page", 2), ("at_most", 1, 2)))
        self.assertEqual(same_pages(barred), list(range(3, 32)))
        self.assertEqual(same_pages(Program([[]], first=0, facts=Facts(("at_most", 1, 0)))), list(range(1, 32)))

    def test_lists_that_were_told_may_change(self):
        found = same_pages(HASTY)
        wanted = list(found)
        found.clear()
        self.assertEqual(same_pages(HASTY), wanted)
