"""[111] to [114] and what [9] says of them: guards."""

import itertools
import random

from mapsizes.errors import (
    InvalidGuard, InvalidGuards, InvalidHand, InvalidInteger, InvalidPattern, InvalidProgram,
)
from mapsizes.facts import Facts
from mapsizes.guards import bars, check_fewest, fewest_guards, guarded, is_guard, pattern_behind, step_behind
from mapsizes.machine import run
from mapsizes.outcomes import can, cases_of, outcomes
from mapsizes.places import Place
from mapsizes.programs import Program
from mapsizes.settings import Setting
from tests.helper import (
    PLACES_OF_N, SIXTY_DIGITS, Checks, any_values, chosen_program, settings_around, values_of_no_text, with_texts,
)

HASTY = Program([[("look", "n")], [("cut", 0)]], first="n+1")
OTHER = Program([[("test", "n"), ("look", "n")], [("cut", 0)]], first="n+1")
FAILS, FAILS_BEHIND = [(0, 0, "fails")], [(0, 1, "fails")]
CANDIDATES = [("test", 0, 0, "n"), ("lock", 0, 0, 0, "a"), ("lock", 1, 0, 0, "a")]
LOCKS = [("lock", 0, 0, 1, "a"), ("test", 1, 0, "n"), ("lock", 1, 0, 0, "a")]
LONG = Program([[("cut", number)] * 3 for number in (0, 1)] + [[]], first="n")


def guards_for(chosen, program, count):
    """Guards that fit a program; most of them can be put into it."""
    places = [str(place) for place in program.places()]
    found = []
    while len(found) < count:
        hand = chosen.randrange(len(program.hands()))
        many = len(program.hands()[hand])
        word = chosen.choice(["test", "sync", "lock", "lock"])
        if word == "lock" and many > 0:
            at = chosen.randrange(many)
            found.append(("lock", hand, at, chosen.randrange(at, many), chosen.choice("ab")))
        elif word == "test":
            found.append(("test", hand, chosen.randrange(many + 1), chosen.choice(places)))
        elif word == "sync":
            found.append(("sync", hand, chosen.randrange(many + 1), chosen.choice(places), chosen.choice(places)))
    return found


def put_in(program, guards):
    """The hands with guards, as texts, and where each step stands; put together by sorting."""
    hands, places = [], {}
    for hand, steps in enumerate(program.hands()):
        rows = [((index, 2, 0), with_texts(step), index) for index, step in enumerate(steps)]
        for number, guard in enumerate(guards):
            if guard[1] == hand and guard[0] == "lock":
                rows.append(((guard[3] + 1, 0, number), ("unlock", guard[4]), None))
                rows.append(((guard[2], 1, number), ("lock", guard[4]), None))
            elif guard[1] == hand:
                rows.append(((guard[2], 1, number), (guard[0], *[str(place) for place in guard[3:]]), None))
        rows.sort(key=lambda row: row[0])
        hands.append([step for _, step, _ in rows])
        places.update({(hand, index): at for at, (_, _, index) in enumerate(rows) if index is not None})
    return hands, places


def can_be_put(program, guards):
    try:
        guarded(program, guards)
    except (InvalidHand, InvalidProgram):
        return False
    return True


def shows_plainly(program, pattern):
    """Whether an outcome of a program shows a pattern."""
    return any(all(told[hand][step] == word for hand, step, word in pattern) for told, _, _ in outcomes(program))


def some_questions(seed, count):
    """Small programs with a pattern that comes without guards, or not, and candidates."""
    chosen = random.Random(seed)
    while count > 0:
        page = chosen.choice([None, None, 1, 2, 31])
        two = page is None and count % 3 == 0
        counts = chosen.choice([(1, 1), (2, 1), (2, 2), (1, 1, 1)])
        program = chosen_program(chosen, counts, two=two, page=page, pools=(2, 3))
        found = [told for told, _, _ in outcomes(program)]
        if found:
            told = chosen.choice(found)
            steps = [(hand, step) for hand, answers in enumerate(told) for step in range(len(answers))]
            asked = chosen.sample(steps, chosen.choice([1, 2]))
            pattern = [(hand, step, told[hand][step]) for hand, step in asked]
            count -= 1
            yield chosen, program, pattern, guards_for(chosen, program, chosen.randrange(4))


def racing_questions(seed, count):
    """Programs in which one hand looks at what another one cuts, and candidates of which few bar that it fails."""
    chosen = random.Random(seed)
    for _ in range(count):
        looks = chosen.choice([[("look", "n")], [("test", "n"), ("look", "n")], [("look", "n"), ("look", "n-1")]])
        cuts = chosen.choice([[("cut", 0)], [("cut", 0), ("cut", "n+1")], [("cut", "n"), ("cut", 1)]])
        program = Program([looks, cuts], first=chosen.choice(["n+1", "n+2"]))
        candidates = guards_for(chosen, program, chosen.choice([2, 3]))
        candidates += [("lock", hand, 0, len(steps) - 1, "a") for hand, steps in enumerate([looks, cuts])]
        chosen.shuffle(candidates)
        yield chosen, program, [(0, len(looks) - 1, "fails")], candidates


class TestGuards(Checks):
    def test_guards_that_fit(self):
        program = Program([[("look", "n"), ("cut", 0)], []], first="n")
        for value, wanted in [
            (("test", 0, 0, "n"), True), (("test", 0, 2, "k-3"), True), (("test", 0, 3, "n"), False),
            (("test", 1, 0, 3), True), (("test", 1, 1, 3), False), (("test", 2, 0, "n"), False),
            (("test", 0, 0, 4), False), (("test", 0, 0, "n+0"), False), (("test", 0, 0), False),
            (("test", 0, 0, "n", "n"), False), (("sync", 0, 2, "n", Place("m")), True),
            (("sync", 1, 0, 0, "3"), True), (("sync", 0, 0, "n"), False), (("sync", 0, 3, 0, 1), False),
            (("sync", 0, 0, "n", 4), False), (("sync", 0, 0, 4, "n"), False), (("lock", 0, 0, 1, "a"), True),
            (("lock", 0, 1, 1, "abcdef"), True), (("lock", 0, 1, 0, "a"), False), (("lock", 0, 0, 2, "a"), False),
            (("lock", 0, 2, 2, "a"), False), (("lock", 1, 0, 0, "a"), False), (("lock", 0, 0, 0, "A"), False),
            (("lock", 0, 0, 0, Place("n")), False), (("lock", 0, 0, 0), False), (("unlock", 0, 0, 0, "a"), False),
            (("lock", 0, 0, 0, "old"), True), (["test", 0, 0, "n"], False), (("test", True, 0, "n"), False),
            (("test", 0, False, "n"), False), (("lock", 0, 0, True, "a"), False), (("lock", 0, False, 0, "a"), False),
            (("test", -1, 0, "n"), False), (("test", 0, -1, "n"), False), (("lock", 0, -1, 0, "a"), False),
            (("test", "0", 0, "n"), False), (("test", 0, None, "n"), False), (("look", 0, 0, "n"), False),
            ((("test",), 0, 0, "n"), False), ((["test"], 0, 0, "n"), False), (({}, 0, 0, "n"), False), (("test", 0, SIXTY_DIGITS, "n"), False),
        ]:
            self.assertIs(is_guard(program, value), wanted, value)
        for value in any_values():
            self.assertIs(is_guard(value=value, program=program), False)
            self.assertIs(is_guard(program, ("test", value, 0, "n")), value == 0 and value is not False)
            self.assertIs(is_guard(program, ("lock", 0, 0, value, "a")), value == 0 and value is not False)
            self.assertIs(is_guard(program, ("lock", 0, 0, 0, value)), value == "n")

    def test_hands_and_steps_behind(self):
        refused = 0
        for chosen, program, pattern, _ in some_questions(51, 150):
            guards = guards_for(chosen, program, chosen.randrange(6))
            hands, places = put_in(program, guards)
            for (hand, step), wanted in places.items():
                self.assertEqual(step_behind(program, guards, hand, step), wanted)
            behind = pattern_behind(program, guards, pattern)
            self.assertEqual(behind, [(hand, places[hand, step], told) for hand, step, told in pattern])
            self.assertIs(type(behind), list)
            try:
                wanted = Program(hands, first=program.first, facts=program.facts, page=program.page)
            except (InvalidHand, InvalidProgram) as error:
                refused += 1
                with self.assertRaises(type(error)):
                    guarded(program, guards)
                with self.assertRaises(type(error)):
                    bars(program, guards, pattern)
            else:
                for found in (guarded(program, guards), guarded(program, tuple(guards))):
                    self.assertEqual(found, wanted)
                self.assertIs(bars(program, guards, pattern), not shows_plainly(wanted, behind))
        self.assertGreater(refused, 10)

    def test_order_at_one_place(self):
        program = Program([[("cut", 0), ("cut", 1)], []], first="n")
        guards = [
            ("lock", 0, 1, 1, "b"), ("test", 0, 1, "n"), ("lock", 0, 0, 0, "a"), ("sync", 0, 1, 0, 1),
            ("lock", 0, 0, 0, "c"), ("test", 0, 2, 2), ("sync", 1, 0, 2, 3), ("test", 0, 0, 3),
        ]
        self.assertEqual([[with_texts(step) for step in hand] for hand in guarded(program, guards).hands()], [
            [
                ("lock", "a"), ("lock", "c"), ("test", "3"), ("cut", "0"), ("unlock", "a"), ("unlock", "c"),
                ("lock", "b"), ("test", "n"), ("sync", "0", "1"), ("cut", "1"), ("unlock", "b"), ("test", "2"),
            ],
            [("sync", "2", "3")],
        ])
        self.assertEqual([step_behind(program, guards, 0, step) for step in (0, 1)], [3, 9])
        twice = [("test", 1, 0, 1), ("test", 1, 0, 1)]
        self.assertEqual(guarded(program, twice).hands()[1], [("test", Place(shift=1))] * 2)

    def test_locks_that_meet(self):
        program = Program([[("cut", 0), ("cut", 1), ("cut", 2)]], first="n")
        meeting = [("lock", 0, 1, 2, "a"), ("lock", 0, 0, 0, "a")]
        self.assertEqual([step[0] for step in guarded(program, meeting).hands()[0]],
                         ["lock", "cut", "unlock", "lock", "cut", "cut", "unlock"])
        for crossing in [
            [("lock", 0, 0, 1, "a"), ("lock", 0, 1, 2, "a")], [("lock", 0, 0, 0, "a")] * 2,
        ]:
            self.assertIs(is_guard(program, crossing[1]), True)
            with self.assertRaises(InvalidHand) as caught:
                guarded(program, crossing)
            steps = [with_texts(step) for step in caught.exception.value]
            self.assertEqual([type(caught.exception.value), steps], [list, put_in(program, crossing)[0][0]])
        own = Program([[("lock", "a"), ("cut", 0)]], first="n")
        self.assertRaises(InvalidHand, guarded, own, [("lock", 0, 1, 1, "a")])
        self.assertEqual(len(guarded(own, [("lock", 0, 1, 1, "b")])), 4)

    def test_guards_of_a_hand_without_steps(self):
        program = Program([[], [("cut", 0)]], first="n")
        self.assertEqual(guarded(program, [("test", 0, 0, 1), ("sync", 0, 0, 1, 2)]).hands()[0],
                         [("test", Place(shift=1)), ("sync", Place(shift=1), Place(shift=2))])
        value = ("lock", 0, 0, 0, "a")
        self.refused(InvalidGuard, {"value": value}, guarded, program, [value])

    def test_no_guards(self):
        self.assertEqual([guarded(HASTY, []), pattern_behind(HASTY, (), FAILS)], [HASTY, FAILS])
        self.assertIs(bars(HASTY, [], FAILS), False)

    def test_facts_and_page_size_stay(self):
        program = Program([[("cut", 0)]], first="n", facts=Facts(("at_most", 1, "n")), page=7)
        found = guarded(program, [("test", 0, 1, "n+1")])
        self.assertEqual([found.facts, found.page, str(found.first)], [program.facts, 7, "n"])

    def test_places_below_0_and_too_many_unknowns(self):
        program = Program([[("test", 1)], [("cut", 1)]], first="n", facts=Facts(("at_most", "n", 2)))
        self.assertIs(bars(program, [], [(0, 0, "end")]), False)
        self.assertIs(bars(program, [("sync", 1, 1, "n-1", "n-1")], [(0, 0, "end")]), False)
        # No setting of the program has a place at n-3, so nothing comes any more.
        below = [("sync", 1, 1, "n-3", "n-3")]
        self.assertEqual([cases_of(guarded(program, below)), bars(program, below, [])], [[], True])
        two = Program([[("test", "n")]], first="m")
        third = [("test", 0, 0, "k")]
        self.assertIs(is_guard(two, third[0]), True)
        for call in (guarded, lambda *rest: bars(*rest, [(0, 0, "end")])):
            with self.assertRaises(InvalidProgram) as caught:
                call(two, third)
            self.assertIs(type(caught.exception.value), list)
        self.assertRaises(InvalidProgram, guarded, Program([[("test", "n")]], first=0, page=31), [("test", 0, 0, "m")])
        full = Program([[("sync", place, place) for place in PLACES_OF_N + [0, 1, 2, 3]]], first="m")
        self.assertEqual(len(guarded(full, [("sync", 0, 0, "m+1", "m")]).places()), 13)
        more = Program([[("sync", one, two) for one, two in [("n-3", "n-2"), ("n-1", "n"), ("n+1", "n+2"), (0, 1)]]],
                       first="m", facts=Facts(("at_most", "m+1", "m+2"), ("at_most", "m+3", 2)))
        self.assertRaises(InvalidProgram, guarded, more, [("sync", 0, 0, "m-1", "m-2")])

    def test_a_thirteenth_step(self):
        program = Program([[("cut", 0)] * 11], first="n")
        self.assertEqual(len(guarded(program, [("test", 0, 11, 0)])), 12)
        for guards in ([("lock", 0, 0, 3, "a")], [("test", 0, 0, 1)] * 2):
            with self.assertRaises(InvalidHand) as caught:
                guarded(program, guards)
            self.assertEqual([type(caught.exception.value), len(caught.exception.value)], [list, 13])

    def test_example_of_the_document(self):
        self.assertEqual(guarded(HASTY, [("test", 0, 0, "n")]).hands()[0], [("test", Place("n")), ("look", Place("n"))])

    def test_names_of_the_arguments(self):
        guards = CANDIDATES[:1]
        self.assertEqual(guarded(guards=guards, program=HASTY), guarded(HASTY, guards))
        self.assertEqual(step_behind(step=0, hand=0, guards=guards, program=HASTY), 1)
        self.assertEqual(pattern_behind(pattern=FAILS, guards=guards, program=HASTY), [(0, 1, "fails")])
        self.assertIs(bars(pattern=FAILS, guards=guards, program=HASTY), False)
        found = fewest_guards(candidates=LOCKS, most=2, pattern=FAILS_BEHIND, program=OTHER)
        self.assertEqual(found, fewest_guards(OTHER, FAILS_BEHIND, LOCKS))
        self.assertIs(check_fewest(
            most=2, result=found, candidates=LOCKS, pattern=FAILS_BEHIND, program=OTHER,
        ), True)
        self.assertRaises(TypeError, fewest_guards, OTHER, FAILS_BEHIND, LOCKS, 2)
        self.assertRaises(TypeError, check_fewest, OTHER, FAILS_BEHIND, LOCKS, found, 2)

    def test_wrong_arguments_in_their_order(self):
        wrong = ("test", 2, 0, "n")
        fitting = CANDIDATES[0]
        calls = [
            guarded, lambda *two: step_behind(*two, None, None), lambda *two: pattern_behind(*two, None),
            lambda *two: bars(*two, None),
        ]
        for value in [value for value in any_values() if not isinstance(value, Program)]:
            for call in [*calls, is_guard]:
                self.refused(InvalidProgram, {"value": value}, call, value, None)
            self.refused(InvalidProgram, {"value": value}, fewest_guards, value, None, None, most=None)
            self.refused(InvalidProgram, {"value": value}, check_fewest, value, None, None, None, most=None)
        for value in [value for value in any_values() if not isinstance(value, (list, tuple))]:
            for call in calls:
                self.refused(InvalidGuards, {"value": value}, call, HASTY, value)
            self.refused(InvalidGuards, {"value": value}, fewest_guards, HASTY, FAILS, value, most=None)
            self.refused(InvalidGuards, {"value": value}, check_fewest, HASTY, FAILS, value, None, most=None)
        for item in any_values() + [wrong, list(fitting)]:
            for guards in ([fitting, item, ("cut",)], (item,)):
                for call in calls:
                    self.refused(InvalidGuard, {"value": item}, call, HASTY, guards)
                self.refused(InvalidGuard, {"value": item}, fewest_guards, HASTY, FAILS, guards, most=None)
                self.refused(InvalidGuard, {"value": item}, check_fewest, HASTY, FAILS, guards, None, most=None)
        # A thirteenth step is refused behind what the arguments are refused for.
        long = [("test", 0, 0, 1)] * 12
        for value in [None, 2, -1, "0", True, [0]]:
            self.refused(InvalidInteger, {"value": value}, step_behind, HASTY, long, value, None)
            self.refused(InvalidInteger, {"value": value}, step_behind, HASTY, long, 0, value)
        self.assertEqual(step_behind(HASTY, long, 0, 0), 12)
        for value in [None, "n", [(0, 1, "x")], [(0, 0)], ((0, 0, 0),), {}]:
            self.refused(InvalidPattern, {"value": value}, pattern_behind, HASTY, long, value)
            self.refused(InvalidPattern, {"value": value}, bars, HASTY, long, value)
            self.refused(InvalidPattern, {"value": value}, fewest_guards, HASTY, value, None, most=None)
            self.refused(InvalidPattern, {"value": value}, check_fewest, HASTY, value, None, None, most=None)
        self.assertEqual(pattern_behind(HASTY, long, FAILS), [(0, 12, "fails")])
        self.assertRaises(InvalidHand, bars, HASTY, long, FAILS)
        many = [fitting] * 9
        for guards in (many, tuple(many), [wrong] * 9):
            self.refused(InvalidGuards, {"value": guards}, fewest_guards, HASTY, FAILS, guards)
            self.refused(InvalidGuards, {"value": guards}, check_fewest, HASTY, FAILS, guards, None)
        for value in values_of_no_text() + [-1, 3, SIXTY_DIGITS, "2", ""]:
            self.refused(InvalidInteger, {"value": value}, fewest_guards, HASTY, FAILS, CANDIDATES, most=value)
            self.refused(InvalidInteger, {"value": value}, check_fewest, HASTY, FAILS, CANDIDATES, None, most=value)

    def test_what_was_passed_stays_and_what_was_told_may_change(self):
        guards, pattern = list(CANDIDATES), list(FAILS)
        found = fewest_guards(HASTY, pattern, guards)
        check_fewest(HASTY, pattern, guards, found)
        guarded(HASTY, guards[:1])
        bars(HASTY, guards[:1], pattern)
        self.assertEqual([guards, pattern], [CANDIDATES, FAILS])
        wanted = fewest_guards(HASTY, pattern, guards)
        self.assertEqual(found, wanted)
        for chosen, _, weaving in found[2]:
            chosen.append("x")
            weaving.clear()
        found[2].clear()
        found[1].append(3)
        self.assertEqual(fewest_guards(HASTY, pattern, guards), wanted)
        pattern_behind(HASTY, guards[:1], pattern).clear()
        self.assertEqual(pattern_behind(HASTY, guards[:1], pattern), [(0, 1, "fails")])


class TestFewest(Checks):
    def test_against_all_choices(self):
        words, sizes = [], []
        for chosen, program, pattern, candidates in [*some_questions(52, 90), *racing_questions(53, 60)]:
            most = chosen.choice([0, 1, 2, 2, 2])
            found = fewest_guards(program, pattern, candidates, most=most)
            self.promises(program, pattern, candidates, most, found)
            self.assertIs(check_fewest(program, pattern, candidates, found, most=most), True)
            self.turned(chosen, program, pattern, candidates, most, found)
            words.append(found[0])
            sizes.append(len(found[1]))
        self.assertGreater(words.count("none"), 30)
        for size in (0, 1, 2):
            self.assertGreaterEqual(sizes.count(size), 3)

    def promises(self, program, pattern, candidates, most, found):
        self.assertEqual([type(item) for item in found], [str, list, list])
        choices = [[candidates[at] for at in indexes] for size in range(most + 1)
                   for indexes in itertools.combinations(range(len(candidates)), size)]
        fits = [choice for choice in choices if can_be_put(program, choice)]
        barring = [choice for choice in fits if not self.comes(program, pattern, choice)]
        word, told, runs = found
        self.assertEqual((word, told), ("guards", barring[0]) if barring else ("none", []))
        lesser = [choice for choice in fits if len(choice) < len(told)] if barring else fits
        self.assertEqual([choice for choice, _, _ in runs], lesser)
        for choice, case, weaving in runs:
            self.assertEqual([type(choice), type(weaving)], [list, list])
            made = Program(put_in(program, choice)[0], first=program.first, facts=program.facts, page=program.page)
            self.assertIn(case, cases_of(made))
            machine = run(made, case, weaving)
            behind = pattern_behind(program, choice, pattern)
            outcome = machine.outcome()
            self.assertEqual([outcome[hand][step] for hand, step, _ in behind], [told for _, _, told in behind])
            self.assertEqual(machine.ready(), [])

    def comes(self, program, pattern, choice):
        return shows_plainly(guarded(program, choice), pattern_behind(program, choice, pattern))

    def turned(self, chosen, program, pattern, candidates, most, found):
        """Papers that are turned about, repeated or told as tuples are accepted, ones with a run left out are not."""
        def holds(result):
            return check_fewest(program, pattern, candidates, result, most=most)
        word, told, runs = found
        tuples = tuple((tuple(choice), case, tuple(weaving)) for choice, case, weaving in runs)
        self.assertIs(holds((word, tuple(told), tuples)), True)
        self.assertIs(holds((word, told, runs[::-1] + runs)), True)
        others = [list(choice) for choice, _, _ in runs]
        for at in range(len(runs)):
            fewer = runs[:at] + runs[at + 1:]
            again = [choice for choice, _, _ in fewer]
            self.assertIs(holds((word, told, fewer)), others[at] in again)
        for at, (choice, _, weaving) in enumerate(runs):
            made = guarded(program, choice)
            for setting in settings_around(made, chosen, 2):
                shown = run_shows(made, setting, weaving, pattern_behind(program, choice, pattern))
                self.assertIs(holds((word, told, [*runs, (choice, setting, weaving)])), shown)
                self.assertIs(holds((word, told, runs[:at] + [(choice, setting, weaving)] + runs[at + 1:])), shown)
            for wrong in (weaving[:-1], [*weaving, 0], [*weaving, chosen.choice([0, 1, 2, None, "0"])]):
                if wrong != weaving:
                    self.assertIs(holds((word, told, [*runs, (choice, runs[at][1], wrong)])), False)

    def test_examples_of_the_document(self):
        found = fewest_guards(HASTY, FAILS, CANDIDATES)
        self.assertEqual([found[0], found[1], len(found[2]), found[2][0][0], found[2][0][2]], ["none", [], 7, [], [1, 0]])
        found = fewest_guards(OTHER, FAILS_BEHIND, LOCKS)
        self.assertEqual(found[:2], ("guards", [("lock", 0, 0, 1, "a"), ("lock", 1, 0, 0, "a")]))
        self.assertEqual([choice for choice, _, _ in found[2]], [[], LOCKS[:1], LOCKS[1:2], LOCKS[2:]])

    def test_most(self):
        for most, count in [(0, 1), (1, 4), (2, 7)]:
            found = fewest_guards(HASTY, FAILS, CANDIDATES, most=most)
            self.assertEqual([found[0], found[1], len(found[2])], ["none", [], count])
            for other in (0, 1, 2):
                self.assertIs(check_fewest(HASTY, FAILS, CANDIDATES, found, most=other), most == other)
        found = fewest_guards(OTHER, FAILS_BEHIND, LOCKS, most=1)
        self.assertEqual([found[0], len(found[2])], ["none", 4])
        found = fewest_guards(OTHER, FAILS_BEHIND, LOCKS)
        self.assertIs(check_fewest(OTHER, FAILS_BEHIND, LOCKS, found, most=1), False)

    def test_no_candidates_and_a_pattern_that_never_comes(self):
        never = [(0, 0, "done")]
        for candidates in ([], (), CANDIDATES):
            self.assertEqual(fewest_guards(HASTY, never, candidates), ("guards", [], []))
            self.assertIs(check_fewest(HASTY, never, candidates, ("guards", [], [])), True)
            self.assertIs(check_fewest(HASTY, never, candidates, ("none", [], [])), False)
            self.assertIs(check_fewest(HASTY, never, candidates, ("nothing", [], [])), False)
        found = fewest_guards(HASTY, FAILS, ())
        self.assertEqual([found[0], found[1], len(found[2])], ["none", [], 1])
        self.assertIs(check_fewest(HASTY, FAILS, (), found), True)
        self.assertIs(check_fewest(HASTY, FAILS, (), ("none", [], [])), False)
        for told in (CANDIDATES[:1], [None], ("n",)):
            self.assertIs(check_fewest(HASTY, FAILS, (), ("none", told, found[2])), False)
            self.assertIs(check_fewest(HASTY, FAILS, CANDIDATES, ("none", told, found[2]), most=0), False)
        self.assertIs(check_fewest(HASTY, FAILS, (), ("guards", [], found[2])), False)
        barred = Program([[("cut", 0)]], first="n", facts=Facts(("at_most", "n+1", "n")))
        self.assertEqual(fewest_guards(barred, [], []), ("guards", [], []))

    def test_eight_and_equal_candidates(self):
        eight = [("test", 1, 0, "n")] * 7 + [("test", 0, 0, "n")]
        found = fewest_guards(HASTY, FAILS, eight)
        self.assertEqual([found[0], len(found[2])], ["none", 1 + 8 + 28])
        self.assertIs(check_fewest(HASTY, FAILS, eight, found), True)
        # Of equal candidates one run stands for each choice that has them.
        fewer = [found[2][at] for at in (0, 1, 8, 9, 36)]
        self.assertEqual(len({str(choice) for choice, _, _ in fewer}), 5)
        self.assertIs(check_fewest(HASTY, FAILS, eight, ("none", [], fewer)), True)
        for at in range(5):
            self.assertIs(check_fewest(HASTY, FAILS, eight, ("none", [], fewer[:at] + fewer[at + 1:])), False)
        locks = [LOCKS[2], LOCKS[0], LOCKS[2], LOCKS[0]]
        found = fewest_guards(OTHER, FAILS_BEHIND, locks)
        self.assertEqual([found[1], len(found[2])], [[LOCKS[2], LOCKS[0]], 5])
        for told in ([LOCKS[0], LOCKS[2]], (LOCKS[2], LOCKS[0]), [LOCKS[2], LOCKS[0]]):
            self.assertIs(check_fewest(OTHER, FAILS_BEHIND, locks, ("guards", told, found[2])), True)
        # Twice the same lock cannot be put into the program.
        self.assertIs(check_fewest(OTHER, FAILS_BEHIND, locks, ("guards", [LOCKS[0]] * 2, found[2])), False)

    def test_choices_that_cannot_be_put_into_the_program(self):
        both = [("lock", 0, 0, 0, "a"), ("lock", 0, 0, 0, "a"), ("test", 1, 0, "n")]
        found = fewest_guards(HASTY, FAILS, both)
        self.assertEqual([choice for choice, _, _ in found[2]],
                         [[], both[:1], both[1:2], both[2:], both[::2], both[1:]])
        self.assertIs(check_fewest(HASTY, FAILS, both, found), True)
        case, weaving = found[2][0][1:]
        self.assertIs(check_fewest(HASTY, FAILS, both, (*found[:2], [*found[2], (both[:2], case, weaving)])), False)
        third = [("test", 0, 0, "k"), ("sync", 0, 0, "m", "m"), ("test", 1, 1, 0)]
        program = Program([[("look", "n")], [("cut", 0)]], first="m")
        found = fewest_guards(program, FAILS, third)
        self.assertEqual([third[0] in choice for choice, _, _ in found[2]], [False] * 4)
        self.assertIs(check_fewest(program, FAILS, third, found), True)
        only = fewest_guards(program, FAILS, third[:1])
        self.assertEqual([only[0], len(only[2])], ["none", 1])

    def test_the_first_of_several_choices(self):
        program = Program([[("look", "n")]], first="n-1", facts=Facts(("at_most", 3, "n")))
        candidates = [("test", 0, 1, "n"), ("test", 0, 0, "n"), ("test", 0, 0, "n-1")]
        found = fewest_guards(program, FAILS, candidates)
        self.assertEqual(found[:2], ("guards", candidates[1:2]))
        self.assertEqual([choice for choice, _, _ in found[2]], [[]])
        # Another choice of as few that bars is accepted too, and a run of one that does not bar does no harm.
        self.assertIs(check_fewest(program, FAILS, candidates, ("guards", candidates[2:], found[2])), True)
        self.assertIs(check_fewest(program, FAILS, candidates, ("guards", candidates[:1], found[2])), False)
        self.assertIs(check_fewest(program, FAILS, candidates, ("guards", candidates[1:], found[2])), False)
        case, weaving = can(guarded(program, candidates[:1]), FAILS)
        more = [*found[2], (candidates[:1], case, weaving)]
        self.assertIs(check_fewest(program, FAILS, candidates, ("guards", candidates[2:], more)), True)
        self.assertIs(check_fewest(program, FAILS, candidates, ("none", [], more)), False)

    def test_choices_are_compared_as_they_are(self):
        candidates = [("test", 0, 0, Place("n"))]
        found = fewest_guards(HASTY, FAILS, candidates)
        self.assertIs(found[2][1][0][0], candidates[0])
        other = [("test", 0, 0, "n")]
        for row in found[2]:
            self.assertIs(check_fewest(HASTY, FAILS, other, ("none", [], found[2])), False)
        text = [(choice and other, case, weaving) for choice, case, weaving in found[2]]
        self.assertIs(check_fewest(HASTY, FAILS, candidates, ("none", [], text)), False)
        self.assertIs(check_fewest(HASTY, FAILS, other, ("none", [], text)), True)
        # What equals a choice, as True equals 1, stands for it and is not looked at as a guard.
        candidates = [("test", 1, 0, "n")]
        found = fewest_guards(HASTY, FAILS, candidates)
        told = [(choice and [("test", True, False, "n")], case, weaving) for choice, case, weaving in found[2]]
        self.assertIs(check_fewest(HASTY, FAILS, candidates, ("none", [], told)), True)

    def test_choices_of_other_guards(self):
        found = fewest_guards(HASTY, FAILS, CANDIDATES, most=1)
        case, weaving = found[2][0][1:]
        for choice in [
            [("test", 1, 0, "n")], CANDIDATES[:2], CANDIDATES[1::-1], "n", None, [None], [[]], {}, [CANDIDATES[0]] * 2,
        ]:
            more = [*found[2], (choice, case, weaving)]
            self.assertIs(check_fewest(HASTY, FAILS, CANDIDATES, ("none", [], more), most=1), False)

    def test_any_values(self):
        found = fewest_guards(OTHER, FAILS_BEHIND, LOCKS)
        word, told, runs = found

        def holds(result):
            return check_fewest(OTHER, FAILS_BEHIND, LOCKS, result)
        self.assertIs(holds(found), True)
        for value in any_values() + [list(found), (*found, []), found[:2], {"n": found}, (found,)]:
            self.assertIs(holds(value), False)
        for value in any_values() + ["none", ["guards"]]:
            self.assertIs(holds((value, told, runs)), False)
            self.assertIs(holds((word, value, runs)), False)
            self.assertIs(holds((word, told, value)), False)
            self.assertIs(holds((word, told, [*runs, value])), False)
            for at, item in enumerate(runs[1]):
                row = [*runs[1]]
                row[at] = value
                if not isinstance(value, Setting):
                    self.assertIs(holds((word, told, [*runs, tuple(row)])), value == item)
        for row in [list(runs[0]), runs[0][:2], (*runs[0], 1), (runs[0][1], runs[0][0], runs[0][2])]:
            self.assertIs(holds((word, told, [*runs, row])), False)

    def test_eight_steps(self):
        program = Program([[("look", "n"), ("look", "n+1")], [("cut", 0), ("cut", "n+2")]], first="n+2")
        candidates = [
            ("test", 0, 0, "n"), ("test", 0, 1, "n+1"), ("lock", 0, 0, 1, "a"), ("lock", 1, 0, 1, "a"),
            ("sync", 0, 0, 0, "n"), ("lock", 1, 0, 0, "a"), ("lock", 0, 1, 1, "a"), ("test", 1, 1, 0),
        ]
        pattern = [(0, 0, "old"), (0, 1, "fails")]
        found = fewest_guards(program, pattern, candidates)
        self.assertEqual(found[:2], ("guards", [candidates[2], candidates[3]]))
        self.assertIs(check_fewest(program, pattern, candidates, found), True)
        for guards, wanted in [([2], False), ([2, 5], True), ([5, 6], False), ([0, 6, 5], False), ([2, 0, 3], True)]:
            self.assertIs(bars(program, [candidates[at] for at in guards], pattern), wanted, guards)


def run_shows(program, setting, weaving, pattern):
    """Whether a weaving is complete at a setting, with an outcome that shows a pattern."""
    try:
        machine = run(program, setting, weaving)
    except ValueError:
        return False
    outcome = machine.outcome()
    return machine.ready() == [] and all(outcome[hand][step] == told for hand, step, told in pattern)
