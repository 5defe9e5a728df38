"""[81] to [84] and what [9] says of them: all settings of a program."""

import random

from mapsizes.errors import InvalidInteger, InvalidPattern, InvalidProgram, InvalidSetting
from mapsizes.facts import Facts
from mapsizes.kinds import same_kind
from mapsizes.outcomes import (
    answers, can, case_for, cases_of, check_never, never, outcomes, together, where,
)
from mapsizes.places import Place
from mapsizes.programs import Program
from mapsizes.settings import Setting
from mapsizes.weavings import is_closed, outcomes_at, replay, states_at
from tests.helper import (
    SIXTY_DIGITS, Checks, any_values, chosen_facts, chosen_program, complete_runs, plain_kind, settings_around,
    values_of_no_text,
)

COUNTS = [(3,), (2, 2), (2, 1), (1, 1, 1), (0, 2), (2, 1, 1)]
PAGES = [None, None, 1, 2, 3, 31]
HANDS = [[("cut", 1)], [("test", "n"), ("look", "n")]]
PROGRAM = Program(HANDS, first="n+1")
SURE = Program(HANDS, first="n+1", facts=Facts(("at_most", "n", 3)))
FAILS, BOTH = [(1, 1, "fails")], [(1, 0, "end"), (1, 1, "old")]
WORDS = ["done", "none", "end", "fails", "zero", "old", "more", "x", "y", "here"]
# Programs without settings: facts that bar one another, and a place that is always below 0.
BARRED = [
    Program(HANDS, first="n", facts=Facts(("at_most", "n", 1), ("at_most", 2, "n"))),
    Program(HANDS, first="n-3", facts=Facts(("at_most", "n", 2))),
    Program(HANDS, first="n", facts=Facts(("at_most", "m+1", "m"))),
    Program(HANDS, first="n", facts=Facts(("page", 2)), page=3),
]


def some_programs(seed, count, counts=COUNTS, pools=(2, 3, 5)):
    """Small programs of one or two unknowns, with facts and without."""
    chosen = random.Random(seed)
    for number in range(count):
        page = chosen.choice(PAGES)
        two = page is None and number % 2 == 0
        facts = chosen_facts(chosen, two)
        yield chosen, chosen_program(chosen, chosen.choice(counts), two=two, page=page, facts=facts, pools=pools)


def kind_in(program, setting):
    """The kind of a setting for the places of a program and of its facts, word by word."""
    places = [str(place) for place in program.places()]
    places += [str(place) for row in program.facts.rows() for place in row[1:]]
    return plain_kind(places, setting.sizes(), setting.page)


def some_pattern(chosen, program, found):
    """A pattern that some outcomes show, or none; `found` are the outcomes."""
    steps = [(hand, step) for hand, rows in enumerate(program.hands()) for step in range(len(rows))]
    asked = chosen.sample(steps, chosen.randrange(min(3, len(steps)) + 1))
    if found and chosen.randrange(2):
        outcome = chosen.choice(found)
        return [(hand, step, outcome[hand][step]) for hand, step in asked]
    return [(hand, step, chosen.choice(WORDS)) for hand, step in asked]


def shows_plainly(outcome, pattern):
    return all(outcome[hand][step] == answer for hand, step, answer in pattern)


class TestCases(Checks):
    def test_each_setting_is_of_the_kind_of_one_case(self):
        without, seen = 0, 0
        for chosen, program in some_programs(21, 70, pools=(2, 3)):
            found = cases_of(program)
            without += found == []
            self.assertIs(type(found), list)
            kinds = {kind_in(program, case): case for case in found}
            self.assertEqual(len(kinds), len(found))
            for case in found:
                self.assertTrue(program.allows(case))
                self.assertEqual(sorted(case.sizes()), program.unknowns())
                self.assertEqual(case.page, program.page or 32)
                self.assertLess(max([0, *case.sizes().values()]), 200)
                self.assertEqual(case_for(program, case), case)
            for setting in settings_around(program, chosen, 8):
                seen += 1
                self.assertIn(kind_in(program, setting), kinds, (program, setting))
                self.assertEqual(case_for(program, setting), kinds[kind_in(program, setting)])
        self.assertGreater(without, 5)
        self.assertGreater(seen, 250)

    def test_of_small_programs(self):
        self.assertEqual(cases_of(Program([[]], first=2)), [Setting({})])
        self.assertEqual(cases_of(Program([[]], first=2, page=1)), [Setting({}, page=1)])
        self.assertEqual(sorted(case["n"] for case in cases_of(Program([[]], first="n", page=1)))[0], 0)
        # At 0, in the page of 0, at the begin of the page behind it, at that of another one, and in another one.
        self.assertEqual(len(cases_of(Program([[]], first="n"))), 5)
        self.assertEqual([case["n"] for case in cases_of(SURE)], [0, 1, 2, 3])
        self.assertEqual([case["n"] for case in cases_of(Program([[]], first="n-3", page=31)) if case["n"] < 4], [3])

    def test_without_settings(self):
        for program in BARRED:
            self.assertEqual(cases_of(program), [])

    def test_of_an_unknown_that_no_step_has(self):
        program = Program(HANDS, first="n", facts=Facts(("at_most", 1, "k"), ("at_most", "k", 2)))
        self.assertEqual({case["k"] for case in cases_of(program)}, {1, 2})
        setting = Setting({"n": 10 ** 40, "k": 2}, page=10 ** 39)
        self.assertEqual(case_for(program, setting)["k"], 2)
        self.refused(InvalidSetting, {"value": PROGRAM}, case_for, program, PROGRAM)
        value = Setting({"n": 5})
        self.refused(InvalidSetting, {"value": value}, case_for, program, value)

    def test_further_unknowns_of_a_setting(self):
        self.assertEqual(case_for(PROGRAM, Setting({"n": 40, "m": 3})), case_for(PROGRAM, Setting({"n": 40})))
        found = case_for(setting=Setting({"n": SIXTY_DIGITS}, page=SIXTY_DIGITS), program=PROGRAM)
        self.assertEqual(list(found.sizes()), ["n"])
        self.assertTrue(same_kind(found, Setting({"n": SIXTY_DIGITS}, page=SIXTY_DIGITS), ["n+1", 1, "n"]))

    def test_equal_arguments_give_equal_results(self):
        twin = Program(tuple(tuple(hand) for hand in HANDS), first=Place("n", shift=1), facts=Facts())
        self.assertEqual(cases_of(twin), cases_of(PROGRAM))
        self.assertEqual(cases_of(program=twin), cases_of(PROGRAM))
        for size in (0, 1, 30, 31, 32, 64, 10 ** 50):
            setting, again = Setting({"n": size}, page=64), Setting({"n": size}, page=64)
            self.assertEqual(case_for(twin, setting), case_for(PROGRAM, again))
        found = cases_of(PROGRAM)
        found.clear()
        self.assertNotEqual(cases_of(PROGRAM), [])


class TestOutcomes(Checks):
    def test_against_all_weavings(self):
        several, searched = 0, 0
        for chosen, program in some_programs(22, 90):
            found = outcomes(program)
            self.assertIs(type(found), list)
            told = [outcome for outcome, _, _ in found]
            self.assertEqual(told, sorted(set(told)))
            several += len(told) > 1
            at_cases = {}
            for case in cases_of(program):
                runs = complete_runs(program, case)
                if runs is not None:
                    searched += 1
                    self.agree(program, case, runs, at_cases)
            for outcome, case, weaving in found:
                self.assertIn(case, cases_of(program))
                self.assertIs(type(weaving), list)
                self.assertEqual(dict(outcomes_at(program, case))[outcome], weaving)
                self.assertIs(replay(program, case, outcome, weaving), True)
            self.assertLessEqual(set(at_cases), set(told))
            for setting in settings_around(program, chosen, 6):
                self.assertLessEqual({outcome for outcome, _ in outcomes_at(program, setting)}, set(told))
        self.assertGreater(several, 30)
        self.assertGreater(searched, 500)

    def agree(self, program, case, runs, at_cases):
        """The least weavings of all outcomes at a case are those of the plain machine."""
        least = {}
        for weaving, machine in runs:
            least.setdefault(machine.outcome(), weaving)
        self.assertEqual(outcomes_at(program, case), [(outcome, least[outcome]) for outcome in sorted(least)])
        at_cases.update(least)

    def test_patterns(self):
        shown, hidden = 0, 0
        for chosen, program in some_programs(23, 60):
            found = [outcome for outcome, _, _ in outcomes(program)]
            settings = cases_of(program)
            at_cases = [[outcome for outcome, _ in outcomes_at(program, case)] for case in settings]
            for _ in range(4):
                pattern = some_pattern(chosen, program, found)
                wanted = [
                    case for case, some in zip(settings, at_cases) if any(shows_plainly(one, pattern) for one in some)
                ]
                self.assertEqual(where(program, pattern), wanted)
                self.assertEqual(where(program, tuple(pattern)), wanted)
                run = can(program, pattern)
                if not wanted:
                    hidden += 1
                    self.assertIsNone(run)
                else:
                    shown += 1
                    self.shown(program, pattern, run, wanted)
                self.papers(chosen, program, pattern, wanted == [])
        self.assertGreater(shown, 60)
        self.assertGreater(hidden, 60)

    def shown(self, program, pattern, run, wanted):
        self.assertIs(type(run), tuple)
        case, weaving = run
        self.assertIn(case, wanted)
        self.assertIs(type(weaving), list)
        some = [outcome for outcome, _ in outcomes_at(program, case) if shows_plainly(outcome, pattern)]
        self.assertTrue(any(replay(program, case, outcome, weaving) for outcome in some))

    def papers(self, chosen, program, pattern, never_comes):
        papers = never(program, pattern)
        if not never_comes:
            self.assertIsNone(papers)
            told = [(case, states_at(program, case)) for case in cases_of(program)]
            self.assertIs(check_never(program, pattern, told), False)
            return
        self.assertEqual([case for case, _ in papers], cases_of(program))
        self.assertEqual({type(states) for _, states in papers}, {list} if papers else set())
        for case, states in papers:
            self.assertIs(is_closed(program, case, states, barred=pattern), True)
        self.assertIs(check_never(program, pattern, papers), True)
        others = [(setting, states_at(program, setting)) for setting in settings_around(program, chosen, 2)]
        mixed = [*others, *papers[::-1]]
        self.assertIs(check_never(program, pattern, mixed), True)
        if papers:
            left_out = chosen.choice(papers)
            fewer = [paper for paper in papers if paper[0] != left_out[0]]
            self.assertIs(check_never(program, pattern, fewer), False)
            case, states = left_out
            self.assertIs(check_never(program, pattern, [*papers, (case, states[1:])]), False)
            self.assertIs(check_never(program, pattern, [*fewer, (case, states[:-1])]), False)

    def test_answers_and_together(self):
        for chosen, program in some_programs(24, 50):
            found = [outcome for outcome, _, _ in outcomes(program)]
            steps = [(hand, step) for hand, rows in enumerate(program.hands()) for step in range(len(rows))]
            for hand, step in steps:
                self.assertEqual(answers(program, hand, step), sorted({outcome[hand][step] for outcome in found}))
            for _ in range(4):
                asked = [chosen.choice(steps) for _ in range(chosen.randrange(4))]
                wanted = sorted({tuple(outcome[hand][step] for hand, step in asked) for outcome in found})
                self.assertEqual(together(program, asked), wanted)
                self.assertEqual(together(program, tuple(asked)), wanted)

    def test_page_sizes(self):
        hands = [[("cut", 1)], [("look", 2)]]
        for page, wanted in [
            (None, ["old", "zero"]), (1, ["fails", "old"]), (2, ["fails", "old"]), (3, ["old", "zero"]),
            (31, ["old", "zero"]),
        ]:
            self.assertEqual(answers(Program(hands, first=3, page=page), 1, 0), wanted)

    def test_large_page_sizes_are_all_alike(self):
        for chosen, program in some_programs(25, 60):
            if program.page is None:
                told = {outcome for outcome, _, _ in outcomes(program)}
                sizes = [{name: size for name in program.unknowns()} for size in (0, 3, 31, 32, 33, 64, 65, 99)]
                for page in (33, 4096, 10 ** 59):
                    for row in sizes + [{name: size + page for name, size in some.items()} for some in sizes]:
                        setting = Setting(row, page=page)
                        if program.allows(setting):
                            self.assertLessEqual({outcome for outcome, _ in outcomes_at(program, setting)}, told)

    def test_examples_of_the_document(self):
        self.assertEqual(answers(PROGRAM, 1, 1), ["fails", "none", "old", "zero"])
        self.assertEqual(together(PROGRAM, [(0, 0), (1, 0)]), [("done", "end"), ("done", "more")])
        self.assertIsNone(can(PROGRAM, BOTH))
        self.assertEqual([can(PROGRAM, FAILS)[1], check_never(PROGRAM, FAILS, [])], [[1, 0, 1], False])
        self.assertEqual(answers(SURE, 1, 1), ["none", "old", "zero"])
        self.assertIs(check_never(SURE, FAILS, never(SURE, FAILS)), True)

    def test_without_settings(self):
        for program in BARRED:
            self.assertEqual([outcomes(program), can(program, []), where(program, [])], [[], None, []])
            self.assertEqual([answers(program, 1, 1), together(program, []), together(program, [(0, 0)])], [[], [], []])
            for pattern in ([], FAILS):
                self.assertEqual(never(program, pattern), [])
                self.assertIs(check_never(program, pattern, []), True)
                self.assertIs(check_never(program, pattern, ()), True)
                self.assertIs(check_never(program, pattern, [(Setting({"n": 3}), [])]), False)

    def test_patterns_at_their_edges(self):
        self.assertEqual([where(PROGRAM, []), never(PROGRAM, [])], [cases_of(PROGRAM), None])
        self.assertIs(replay(PROGRAM, *self.run_of(PROGRAM, [])), True)
        twice, unlike = [(1, 1, "old"), (1, 1, "old")], [(1, 1, "old"), (1, 1, "zero")]
        self.assertEqual(where(PROGRAM, twice), where(PROGRAM, [(1, 1, "old")]))
        self.assertEqual([can(PROGRAM, unlike), where(PROGRAM, unlike)], [None, []])
        for pattern in (unlike, [(0, 0, "nothing")], [(0, 0, "")], BOTH):
            self.assertIs(check_never(PROGRAM, pattern, never(PROGRAM, pattern)), True)

    def run_of(self, program, pattern):
        case, weaving = can(program, pattern)
        found = [outcome for outcome, _ in outcomes_at(program, case) if replay(program, case, outcome, weaving)]
        return case, found[0], weaving

    def test_together_at_its_edges(self):
        self.assertEqual(together(PROGRAM, []), [()])
        self.assertEqual(together(PROGRAM, [(1, 0), (1, 0)]), [("end", "end"), ("more", "more")])
        self.assertEqual(together(PROGRAM, [(1, 1), (0, 0)])[0], ("fails", "done"))
        self.assertEqual(together(Program([[], []], first="n"), ()), [()])

    def test_hands_without_steps_and_hands_that_wait_for_ever(self):
        for outcome, case, weaving in outcomes(Program([[], [], []], first="n")):
            self.assertEqual([outcome, weaving], [((), (), ()), []])
        a, b = ("lock", "a"), ("lock", "b")
        program = Program([[a, b], [b, a]], first=0)
        self.assertEqual(outcomes(program), [
            ((("done", "done"), ("done", "done")), Setting({}), [0, 0, 1, 1]),
            ((("done", "none"), ("done", "none")), Setting({}), [0, 1]),
        ])
        self.assertEqual(together(program, [(0, 1), (1, 1)]), [("done", "done"), ("none", "none")])

    def test_facts_of_an_unknown_that_no_step_has(self):
        program = Program(HANDS, first="n+1", facts=Facts(("at_most", "m", "n"), ("at_most", 3, "m")))
        self.assertEqual(answers(program, 1, 1), ["fails", "none", "old", "zero"])
        few = Program(HANDS, first="n+1", facts=Facts(("at_most", "m", 1), ("at_most", "n", "m")))
        self.assertEqual(answers(few, 1, 1), ["none", "old", "zero"])
        self.assertEqual({tuple(sorted(case.sizes())) for _, case, _ in outcomes(few)}, {("m", "n")})

    def test_two_unknowns(self):
        program = Program([[("write", "n", "m", "x")], [("read", "n")]], first="n")
        self.assertEqual(answers(program, 1, 0), ["end", "x"])
        order = Program([[("test", "n")]], first="m", facts=Facts(("at_most", "n", "m-1")))
        self.assertEqual(answers(order, 0, 0), ["more"])

    def test_names_of_the_arguments(self):
        self.assertEqual(outcomes(program=PROGRAM), outcomes(PROGRAM))
        self.assertEqual(can(pattern=FAILS, program=PROGRAM), can(PROGRAM, FAILS))
        self.assertEqual(where(pattern=FAILS, program=PROGRAM), where(PROGRAM, FAILS))
        self.assertEqual(answers(step=1, hand=1, program=PROGRAM), answers(PROGRAM, 1, 1))
        self.assertEqual(together(asked=[(1, 1)], program=PROGRAM), together(PROGRAM, [(1, 1)]))
        papers = never(pattern=BOTH, program=PROGRAM)
        self.assertIs(check_never(papers=papers, pattern=BOTH, program=PROGRAM), True)

    def test_what_was_passed_stays_and_what_was_told_may_change(self):
        pattern, asked = list(BOTH), [(0, 0), (1, 0)]
        papers = never(PROGRAM, pattern)
        copied = [(case, list(states)) for case, states in papers]
        for call in (can, where, never):
            call(PROGRAM, pattern)
        check_never(PROGRAM, pattern, papers)
        together(PROGRAM, asked)
        self.assertEqual([pattern, asked, papers], [BOTH, [(0, 0), (1, 0)], copied])
        first = outcomes(PROGRAM)
        wanted = [(outcome, case, list(weaving)) for outcome, case, weaving in first]
        for _, _, weaving in first:
            weaving.append(7)
        first.clear()
        self.assertEqual(outcomes(PROGRAM), wanted)
        for call in (
            lambda: where(PROGRAM, FAILS), lambda: answers(PROGRAM, 1, 1), lambda: together(PROGRAM, asked),
            lambda: never(PROGRAM, BOTH), lambda: can(PROGRAM, FAILS)[1], lambda: never(PROGRAM, BOTH)[0][1],
        ):
            told = call()
            kept = list(told)
            told.clear()
            self.assertEqual(call(), kept)
        papers[0][1].clear()
        self.assertNotEqual(papers[1][1], [])


class TestPapers(Checks):
    def setUp(self):
        self.papers = never(SURE, FAILS)

    def test_further_papers_and_states(self):
        papers = self.papers
        far = [(case, states + any_values() + states_at(PROGRAM, Setting({"n": 40}))) for case, states in papers]
        for found in (
            papers[::-1], tuple(papers), papers + papers, far, [(case, tuple(states)) for case, states in papers],
            [(case, states[::-1] + states) for case, states in papers],
        ):
            self.assertIs(check_never(SURE, FAILS, found), True)

    def test_great_settings_in_the_place_of_cases(self):
        facts = Facts(("page", "n"), ("at_most", 1, "n"))
        program = Program([[("cut", "n+1")], [("look", "n"), ("look", 1)]], first="n+2", facts=facts)
        self.assertEqual([len(cases_of(program)), answers(program, 1, 0)], [2, ["old"]])
        papers = never(program, [(1, 0, "fails")])
        for page in (32, 33, 10 ** 58):
            found = []
            for case, states in papers:
                great = Setting({"n": case["n"] // 32 * page, "m": 4}, page=page)
                found.append((great, states))
            self.assertIs(check_never(program, [(1, 0, "fails")], found), True)
            self.assertIs(check_never(program, [(1, 0, "fails")], found[:1]), False)
            self.assertIs(check_never(program, [(1, 0, "fails")], [found[0], found[0]]), False)
            self.assertIs(check_never(program, [(1, 0, "fails")], found[:1] + papers), True)

    def test_each_paper_and_each_state_is_needed(self):
        for at, (case, states) in enumerate(self.papers):
            fewer = self.papers[:at] + self.papers[at + 1:]
            self.assertIs(check_never(SURE, FAILS, fewer), False)
            for state in states:
                left = [other for other in states if other != state]
                self.assertIs(check_never(SURE, FAILS, [*fewer, (case, left)]), False)
                # A paper that shows too little is not made good by one that shows enough.
                self.assertIs(check_never(SURE, FAILS, [*self.papers, (case, left)]), False)

    def test_settings_of_another_program(self):
        setting, below = Setting({"n": 40}), Program([[("test", "n-1")]], first="n")
        states = states_at(PROGRAM, setting)
        self.assertIs(check_never(SURE, FAILS, [*self.papers, (setting, states)]), False)
        told = never(below, [(0, 0, "none")])
        self.assertIs(check_never(below, [(0, 0, "none")], told), True)
        zero = Setting({"n": 0})
        self.assertIs(check_never(below, [(0, 0, "none")], [*told, (zero, told[0][1])]), False)
        small = Setting({"n": 3}, page=31)
        self.assertIs(check_never(SURE, FAILS, [*self.papers, (small, self.papers[-1][1])]), False)

    def test_a_pattern_that_comes(self):
        told = [(case, states_at(SURE, case)) for case in cases_of(SURE)]
        self.assertIs(check_never(SURE, FAILS, told), True)
        self.assertIs(check_never(SURE, [(1, 1, "zero")], told), False)
        self.assertIs(check_never(SURE, [], told), False)
        # It comes at some cases, and the papers are only of the others.
        others = [paper for paper in told if paper[0] not in where(SURE, [(1, 1, "zero")])]
        self.assertIs(check_never(SURE, [(1, 1, "zero")], others), False)

    def test_any_values(self):
        case, states = self.papers[0]
        for value in any_values():
            self.assertIs(check_never(SURE, FAILS, value), False)
            self.assertIs(check_never(SURE, FAILS, [*self.papers, value]), False)
            self.assertIs(check_never(SURE, FAILS, [*self.papers, (value, states)]), False)
            self.assertIs(check_never(SURE, FAILS, [*self.papers, (case, value)]), False)
        for paper in [[case, states], (case,), (case, states, states), (states, case), (case, {"states": states})]:
            self.assertIs(check_never(SURE, FAILS, [*self.papers, paper]), False)
        self.assertIs(check_never(SURE, FAILS, {"n": self.papers}), False)


class TestErrors(Checks):
    def others(self):
        return [value for value in any_values() if not isinstance(value, Program)]

    def test_programs(self):
        for value in self.others():
            for call, rest in [
                (cases_of, ()), (case_for, (None,)), (outcomes, ()), (can, (None,)), (where, (None,)),
                (answers, (None, None)), (together, (None,)), (never, (None,)), (check_never, (None, None)),
            ]:
                self.refused(InvalidProgram, {"value": value}, call, value, *rest)

    def test_settings(self):
        settings = [value for value in any_values() if not isinstance(value, Setting)]
        for value in settings + [Setting({}), Setting({"m": 3}), Setting({"n": 4}), Setting({"n": 3}, page=31)]:
            self.refused(InvalidSetting, {"value": value}, case_for, SURE, value)
        below = Program([[("cut", "n-2")]], first="n")
        for size in (0, 1):
            value = Setting({"n": size})
            self.refused(InvalidSetting, {"value": value}, case_for, below, value)

    def test_patterns(self):
        rows = [(0, 0), (0, 0, "x", "y"), [0, 0, "x"], (2, 0, "x"), (0, 1, "x"), (-1, 0, "x"), (0, -1, "x"), None]
        rows += [(True, 0, "x"), (0, False, "x"), (0, 0, 1), (0, 0, None), ("0", 0, "x"), (SIXTY_DIGITS, 0, "x")]
        wrong = [[(0, 0, "done"), row] for row in rows] + [(row,) for row in rows] + [(0, 0, "done")]
        wrong += [value for value in any_values() if value not in ([], ())]
        for value in wrong:
            for call, rest in [(can, ()), (where, ()), (never, ()), (check_never, (None,)), (check_never, ([],))]:
                self.refused(InvalidPattern, {"value": value}, call, PROGRAM, value, *rest)

    def test_steps_that_are_asked_together(self):
        rows = [(0,), (0, 0, 0), (0, 0, "x"), [0, 0], (2, 0), (0, 1), (1, 2), (-1, 0), (0, -1), (True, 0), (0, False)]
        rows += [(None, 0), (0, None), ("0", 0), (SIXTY_DIGITS, 0), (0, SIXTY_DIGITS), None, 0, "n", ()]
        for row in rows:
            for value in ([(0, 0), row], (row,)):
                self.refused(InvalidPattern, {"value": value}, together, PROGRAM, value)
        for value in [value for value in any_values() if value not in ([], ())] + [(0, 0), {}]:
            self.refused(InvalidPattern, {"value": value}, together, PROGRAM, value)

    def test_indexes(self):
        for value in values_of_no_text() + [-1, 2, SIXTY_DIGITS, "0", ""]:
            self.refused(InvalidInteger, {"value": value}, answers, PROGRAM, value, None)
            self.refused(InvalidInteger, {"value": value}, answers, PROGRAM, 1, value)
        value = [1]
        self.refused(InvalidInteger, {"value": value}, answers, PROGRAM, 0, value)
        self.refused(InvalidInteger, {"value": 1}, answers, PROGRAM, 0, 1)
        self.refused(InvalidInteger, {"value": 0}, answers, Program([[]], first=0), 0, 0)
