"""[71] to [75] and what [9] says of them: all weavings at one setting."""

import random

from mapsizes.errors import InvalidPattern, InvalidProgram, InvalidSetting
from mapsizes.facts import Facts
from mapsizes.kinds import case_of
from mapsizes.machine import Machine, run
from mapsizes.places import Place
from mapsizes.programs import Program
from mapsizes.settings import Setting
from mapsizes.weavings import is_closed, is_pattern, outcomes_at, replay, shows, states_at, weavings
from tests.helper import (
    SIXTY_DIGITS, Checks, all_runs, any_values, chosen_program, chosen_setting, values_of_no_text,
)

COUNTS = [(4,), (2, 2), (3, 2), (2, 1, 1), (0, 3), (2, 2, 1), (1, 0, 2)]
PROGRAM = Program([[("cut", 1)], [("test", "n"), ("look", "n")]], first="n+1")
FAR = Setting({"n": 40})
NEAR = Setting({"n": 20})


def some_programs(chosen, count):
    """Programs with settings that have few enough weavings to look at all; most of them have several outcomes."""
    while count > 0:
        page = chosen.choice([None, None, 1, 2, 31])
        two = page is None and chosen.randrange(2) == 0
        program = chosen_program(chosen, chosen.choice(COUNTS), two=two, page=page, pools=(3, 4, 6))
        setting = chosen_setting(chosen, program)
        if setting is not None:
            runs = [machine for _, (_, machine) in zip(range(401), all_runs(program, setting))]
            outcomes = {machine.outcome() for machine in runs if not machine.ready()}
            if len(runs) <= 400 and (len(outcomes) > 1 or count % 4 == 0):
                count -= 1
                yield program, setting


class TestAgainstAllWeavings(Checks):
    def test_small_programs(self):
        chosen, found = random.Random(9), []
        for program, setting in some_programs(chosen, 160):
            runs = list(all_runs(program, setting))
            self.weavings(program, setting, runs)
            states = self.states(program, setting, runs)
            outcomes = self.outcomes(program, setting, runs)
            self.closed(chosen, program, setting, states, outcomes)
            found.append((len(outcomes), len(states)))
        self.assertGreater(max(found), (6, 0))
        self.assertGreater(len([outcomes for outcomes, _ in found if outcomes > 1]), 100)

    def weavings(self, program, setting, runs):
        complete = [(weaving, machine.outcome()) for weaving, machine in runs if not machine.ready()]
        self.assertEqual(list(weavings(program, setting)), [weaving for weaving, _ in complete])
        outcomes = [outcome for _, outcome in complete]
        for weaving, machine in runs[::5]:
            for outcome in outcomes[:2] + [machine.outcome()]:
                wanted = (weaving, outcome) in complete
                self.assertIs(replay(program, setting, outcome, weaving), wanted)
                self.assertIs(replay(program, setting, outcome, tuple(weaving)), wanted)
                self.assertIs(replay(program, setting, list(outcome), weaving), False)
        for weaving, outcome in complete[:3]:
            self.assertIs(replay(program, setting, outcome, [*weaving, 0]), False)

    def states(self, program, setting, runs):
        wanted = {}
        for weaving, machine in sorted(runs, key=lambda one: (len(one[0]), one[0])):
            wanted.setdefault(machine.state(), weaving)
        found = states_at(program, setting)
        self.assertEqual(found, list(wanted))
        for state, weaving in wanted.items():
            self.assertEqual(run(program, setting, weaving).state(), state)
        return found

    def outcomes(self, program, setting, runs):
        wanted = {}
        for weaving, machine in sorted(runs, key=lambda one: (len(one[0]), one[0])):
            if not machine.ready():
                wanted.setdefault(machine.outcome(), weaving)
        found = outcomes_at(program, setting)
        self.assertEqual(found, [(outcome, wanted[outcome]) for outcome in sorted(wanted)])
        self.assertEqual({type(weaving) for _, weaving in found}, {list})
        return [outcome for outcome, _ in found]

    def closed(self, chosen, program, setting, states, outcomes):
        steps = [(hand, step) for hand, rows in enumerate(program.hands()) for step in range(len(rows))]
        for _ in range(5):
            asked = chosen.sample(steps, chosen.randrange(min(3, len(steps) + 1)))
            words = ["done", "none", "end", "fails", "zero", "old", "x", "more"]
            barred = [(hand, step, chosen.choice(words)) for hand, step in asked]
            seen = any(all(outcome[hand][step] == word for hand, step, word in barred) for outcome in outcomes)
            self.assertIs(is_closed(program, setting, states, barred=barred), not seen, barred)
            self.assertIs(is_closed(program, setting, tuple(states[::-1]), barred=tuple(barred)), not seen)
            self.assertIs(is_closed(program, setting, ["n", [], *states, *states, (1, [])], barred=barred), not seen)
            taken = chosen.choice(states)
            fewer = [state for state in states if state != taken]
            self.assertIs(is_closed(program, setting, fewer, barred=barred), False)

    def test_each_state_is_needed(self):
        program = Program([[("write", "n", "n+2", "x"), ("read", "n")], [("cut", 1), ("store", 0, "y")]], first=2)
        setting = Setting({"n": 63})
        states = states_at(program, setting)
        self.assertIs(is_closed(program, setting, states, barred=[(0, 1, "old")]), True)
        for at in range(len(states)):
            self.assertIs(is_closed(program, setting, states[:at] + states[at + 1:], barred=[(0, 1, "old")]), False)
        self.assertEqual(len(states), len(set(states)))
        self.assertEqual(states[0], Machine(program, setting).state())

    def test_settings_of_one_kind(self):
        chosen, found = random.Random(10), 0
        for count in range(120):
            facts = chosen.choice([None, Facts(("at_most", 0, "n"))])
            page = chosen.choice([None, None, 3, 31])
            program = chosen_program(chosen, (2, 1, 2), two=page is None and count % 2 == 0, page=page, facts=facts)
            setting = chosen_setting(chosen, program, great=True)
            if setting is not None:
                found += 1
                case = case_of(setting, program.places(), program.facts, page=page)
                self.assertEqual(outcomes_at(program, setting), outcomes_at(program, case))
                self.assertEqual(states_at(program, setting), states_at(program, case))
                for one, other, _ in zip(weavings(program, setting), weavings(program, case), range(60)):
                    self.assertEqual(one, other)
                for outcome, weaving in outcomes_at(program, case):
                    self.assertIs(replay(program, setting, outcome, weaving), True)
        self.assertGreater(found, 80)


class TestWeavings(Checks):
    def test_examples_of_the_document(self):
        self.assertEqual(list(weavings(PROGRAM, FAR)), [[0, 1], [1, 0, 1], [1, 1, 0]])
        wanted = [((("done",), ("end", "none")), [0, 1]), ((("done",), ("more", "fails")), [1, 0, 1])]
        self.assertEqual(outcomes_at(PROGRAM, FAR)[:2], wanted)
        self.assertIs(is_closed(PROGRAM, NEAR, states_at(PROGRAM, NEAR), barred=[(1, 1, "fails")]), True)
        self.assertIs(is_closed(PROGRAM, FAR, states_at(PROGRAM, FAR), barred=[(1, 1, "fails")]), False)

    def test_a_generator_of_new_lists(self):
        found = weavings(PROGRAM, FAR)
        self.assertIs(iter(found), found)
        first = next(found)
        first.append(7)
        self.assertEqual([next(found), next(found), list(found)], [[1, 0, 1], [1, 1, 0], []])
        self.assertEqual(list(weavings(setting=FAR, program=PROGRAM))[0], [0, 1])

    def test_first_weavings_of_very_many(self):
        hands = [[("write", 0, "n+3", "x"), ("sync", "n", "n+1"), ("sync", "n+2", "n-1")] for _ in range(3)]
        program = Program([*hands[:2], hands[0][:2]], first=1, page=1)
        found = weavings(program, Setting({"n": 10 ** 59}, page=1))
        # A write takes a turn for each of 0, 1, n-1, n, n+1 and n+2.
        wanted = [0] * 8 + [1] * 8 + [2] * 7
        self.assertEqual([next(found), next(found)], [wanted, wanted[:15] + [2, 1] + [2] * 6])

    def test_without_steps_and_without_ready_hands(self):
        for hands in ([[]], [[], [], []]):
            program = Program(hands, first="n")
            outcome = tuple(() for _ in hands)
            self.assertEqual(list(weavings(program, FAR)), [[]])
            self.assertEqual(outcomes_at(program, FAR), [(outcome, [])])
            self.assertEqual(states_at(program, FAR), [Machine(program, FAR).state()])
            self.assertIs(replay(program, FAR, outcome, []), True)
            self.assertIs(is_closed(program, FAR, states_at(program, FAR), barred=[]), False)

    def test_waiting_for_ever(self):
        a, b = ("lock", "a"), ("lock", "b")
        program = Program([[a, b], [b, a]], first=0)
        self.assertEqual(list(weavings(program, FAR)), [[0, 0, 1, 1], [0, 1], [1, 0], [1, 1, 0, 0]])
        both, stuck = (("done", "done"), ("done", "done")), (("done", "none"), ("done", "none"))
        self.assertEqual(outcomes_at(program, FAR), [(both, [0, 0, 1, 1]), (stuck, [0, 1])])
        self.assertEqual(len(states_at(program, FAR)), 9)
        self.assertIs(is_closed(program, FAR, states_at(program, FAR), barred=[(0, 1, "none"), (1, 1, "done")]), True)
        self.assertIs(is_closed(program, FAR, states_at(program, FAR), barred=[(0, 1, "none")]), False)

    def test_fewer_turns_make_a_lesser_weaving(self):
        program = Program([[("test", "n"), ("read", 0)], [("cut", 0)], [("cut", "n+1")]], first="n")
        found = dict(outcomes_at(program, FAR))
        self.assertEqual(found[(("end", "none"), ("done",), ("done",))], [0, 1, 2])
        self.assertEqual(found[(("more", "zero"), ("done",), ("done",))], [1, 2, 0, 0])
        self.assertEqual(found[(("more", "old"), ("done",), ("done",))], [2, 0, 0, 1])

    def test_least_weaving_of_a_hand_that_ends_early_or_late(self):
        program = Program([[("test", "n"), ("sync", 0, 0)], [("cut", "n+1")]], first="n")
        self.assertEqual(outcomes_at(program, FAR), [
            ((("end", "none"), ("done",)), [0, 1]), ((("more", "done"), ("done",)), [1, 0, 0]),
        ])
        texts = [state[1] for state in states_at(program, FAR)]
        self.assertEqual(texts, ["n", "n", "n+1", "n+1", "n+1", "n+1"])

    def test_lists_that_were_told_may_change(self):
        outcomes, states = outcomes_at(PROGRAM, FAR), states_at(PROGRAM, FAR)
        for told in (outcomes_at(PROGRAM, FAR), states_at(PROGRAM, FAR), outcomes_at(PROGRAM, FAR)[0][1]):
            told.clear()
        self.assertEqual([outcomes_at(PROGRAM, FAR), states_at(PROGRAM, FAR)], [outcomes, states])
        outcomes[0][1].append(0)
        self.assertNotEqual(outcomes_at(PROGRAM, FAR), outcomes)

    def test_what_was_passed_stays(self):
        weaving, barred, states = [1, 0, 1], [(1, 1, "old")], states_at(PROGRAM, FAR)
        replay(PROGRAM, FAR, (("done",), ("more", "fails")), weaving)
        is_closed(PROGRAM, FAR, states, barred=barred)
        is_pattern(PROGRAM, barred)
        self.assertEqual([weaving, barred, states], [[1, 0, 1], [(1, 1, "old")], states_at(PROGRAM, FAR)])

    def test_eight_steps_of_three_hands(self):
        hands = [
            [("write", 0, "n+3", "a"), ("write", 1, "n+2", "b"), ("write", 2, "n+1", "c")],
            [("write", 3, "n", "d"), ("write", "n-1", "n+3", "e"), ("read", "n-2")],
            [("write", "n-3", "n+3", "g"), ("read", "n")],
        ]
        program = Program(hands, first=1, page=1)
        self.assertEqual(len(program.places()), 11)
        setting = Setting({"n": SIXTY_DIGITS}, page=1)
        found = outcomes_at(program, setting)
        for outcome, weaving in found[::5]:
            self.assertIs(replay(program, setting, outcome, weaving), True)
        self.assertEqual({outcome[1][2] for outcome, _ in found}, {"a", "b", "c", "d", "g"})

    def test_two_unknowns_of_sixty_digits(self):
        hands = [[("write", "n", "m+1", "x"), ("cut", "n+2")], [("test", "m"), ("look", "m+1"), ("store", "n", "y")]]
        program = Program(hands, first="m", facts=Facts(("at_most", "n", "m")))
        setting = Setting({"n": 10 ** 59 - 2, "m": SIXTY_DIGITS}, page=10 ** 58)
        case = case_of(setting, program.places(), program.facts)
        self.assertEqual(outcomes_at(program, setting), outcomes_at(program, case))
        self.assertIs(is_closed(program, setting, states_at(program, case), barred=[(1, 1, "x")]), True)


class TestReplay(Checks):
    def test_any_values(self):
        outcome = (("done",), ("more", "fails"))
        self.assertIs(replay(weaving=[1, 0, 1], outcome=outcome, setting=FAR, program=PROGRAM), True)
        for value in any_values():
            self.assertIs(replay(PROGRAM, FAR, value, [1, 0, 1]), False)
            self.assertIs(replay(PROGRAM, FAR, outcome, value), False)
            self.assertIs(replay(PROGRAM, FAR, outcome, [1, value, 1]), value == 0 and value is not False)
        for weaving in [[1, 0], [1, 0, 1, 0], [1, False, 1], [True, 0, True], [2], [-1], [0, 1, 1], [1, 0, [1]], []]:
            self.assertIs(replay(PROGRAM, FAR, outcome, weaving), False)
        for value in [(("done",), ["more", "fails"]), (("done",), ("more", "zero")), (("done",),), (*outcome, ())]:
            self.assertIs(replay(PROGRAM, FAR, value, [1, 0, 1]), False)

    def test_a_weaving_that_is_not_complete(self):
        self.assertIs(replay(PROGRAM, FAR, (("none",), ("more", "none")), [1]), False)
        self.assertIs(replay(PROGRAM, FAR, (("done",), ("end", "none")), [0, 1]), True)


class TestPatterns(Checks):
    def test_patterns(self):
        for value in [
            [], (), [(0, 0, "done")], ((1, 1, "old"), (1, 0, "more")), [(0, 0, "")], [(0, 0, "done"), (0, 0, "old")],
            [(1, 1, "x" * 2000)], [(0, 0, "done")] * 9,
        ]:
            self.assertIs(is_pattern(PROGRAM, value), True)
        self.assertIs(is_pattern(value=[(1, 1, "x")], program=PROGRAM), True)

    def wrong(self):
        rows = any_values() + [
            (0, 0), (0, 0, "x", "y"), [0, 0, "x"], (2, 0, "x"), (0, 1, "x"), (1, 2, "x"), (-1, 0, "x"), (0, -1, "x"),
            (False, 0, "x"), (0, False, "x"), (True, 0, "x"), (1, True, "x"), ("0", 0, "x"), (0, "0", "x"),
            (None, 0, "x"), (0, [0], "x"), ((0, 0, "x"),), (SIXTY_DIGITS, 0, "x"), (0, SIXTY_DIGITS, "x"),
            *[(0, 0, value) for value in values_of_no_text() + [0, 1, Place("n")]],
        ]
        found = [[(0, 0, "done"), row] for row in rows] + [(row,) for row in rows]
        empty = [value for value in any_values() if value not in ([], ())]
        return found + [value for value in empty if not isinstance(value, (list, tuple))] + [{}, (0, 0, "done")]

    def test_other_values(self):
        for value in self.wrong():
            self.assertIs(is_pattern(PROGRAM, value), False, value)
        self.assertIs(is_pattern(Program([[]], first=0), [(0, 0, "none")]), False)

    def test_shows(self):
        outcome = (("done", "x"), (), ("none",))
        for pattern, wanted in [
            ([], True), ([(0, 0, "done")], True), ([(0, 1, "x"), (2, 0, "none")], True), ([(0, 1, "y")], False),
            ([(0, 0, "done"), (0, 1, "done")], False), (((0, 1, "x"),), True), ([(0, 1, "x"), (0, 1, "y")], False),
            ([(2, 0, "none"), (2, 0, "none")], True), ([(0, 1, "")], False),
        ]:
            self.assertIs(shows(outcome, pattern), wanted)
        self.assertIs(shows(pattern=[(2, 0, "none")], outcome=outcome), True)


class TestClosed(Checks):
    def test_values_that_are_no_list_of_the_states(self):
        states = states_at(PROGRAM, NEAR)
        for value in any_values() + [dict.fromkeys(states), [states], (states,), {"states": states}]:
            self.assertIs(is_closed(PROGRAM, NEAR, value, barred=[(1, 1, "fails")]), False)
        for change in [
            lambda state: list(state), lambda state: state[:5], lambda state: (state,), lambda state: (*state, ()),
        ]:
            self.assertIs(
                is_closed(PROGRAM, NEAR, [change(state) for state in states], barred=[(1, 1, "fails")]), False,
            )

    def test_other_items_do_not_matter(self):
        states = states_at(PROGRAM, NEAR)
        deep = ((((((((("x",),),),),),),),),)
        others = any_values() + [deep, [deep], {"n": states}, states, (states[0],), list(states[0])]
        others += states_at(PROGRAM, FAR)
        for found in (others + states, (*states[::-1], *others), states + states):
            self.assertIs(is_closed(PROGRAM, NEAR, found, barred=[(1, 1, "fails")]), True)
        self.assertIs(is_closed(barred=((1, 1, "fails"),), states=states, setting=NEAR, program=PROGRAM), True)

    def test_only_complete_weavings_show_a_pattern(self):
        states = states_at(PROGRAM, NEAR)
        for barred, wanted in [
            ([(0, 0, "none")], True), ([(1, 0, "none")], True), ([(1, 1, "none")], False),
            ([(1, 1, "none"), (1, 0, "more")], True), ([(1, 1, "none"), (1, 0, "end")], False),
            ([], False), ([(1, 1, "old")], False), ([(1, 1, "x")], True),
        ]:
            self.assertIs(is_closed(PROGRAM, NEAR, states, barred=barred), wanted, barred)

    def test_without_the_pattern(self):
        self.assertRaises(TypeError, lambda: is_closed(PROGRAM, NEAR, [], [(1, 1, "fails")]))
        self.assertRaises(TypeError, lambda: is_closed(PROGRAM, NEAR, []))


class TestErrors(Checks):
    def test_programs_settings_and_patterns(self):
        calls = [
            lambda *two: next(weavings(*two)), lambda *two: replay(*two, None, None), outcomes_at, states_at,
            lambda *two: is_closed(*two, None, barred=None),
        ]
        others = [value for value in any_values() if not isinstance(value, Program)]
        settings = [value for value in any_values() if not isinstance(value, Setting)]
        for call in calls:
            for value in others:
                self.refused(InvalidProgram, {"value": value}, call, value, None)
            for value in settings + [Setting({}), Setting({"n": 5}, page=31), Setting({"m": 5})]:
                self.refused(InvalidSetting, {"value": value}, call, PROGRAM, value)
            value, below = Setting({"n": 0}), Program([[("cut", "n-1")]], first="n")
            self.refused(InvalidSetting, {"value": value}, call, below, value)
        for value in others:
            self.refused(InvalidProgram, {"value": value}, is_pattern, value, None)

    def test_patterns(self):
        for value in TestPatterns().wrong():
            self.refused(InvalidPattern, {"value": value}, is_closed, PROGRAM, NEAR, None, barred=value)
