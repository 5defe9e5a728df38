"""[52], [53] and [54]: programs."""

from mapsizes.errors import InvalidFacts, InvalidHand, InvalidInteger, InvalidPlace, InvalidProgram, InvalidStep
from mapsizes.facts import Facts
from mapsizes.places import Place
from mapsizes.programs import Program
from mapsizes.settings import Setting
from tests.helper import (
    PLACES_OF_M, PLACES_OF_N, SIXTY_DIGITS, Checks, any_values, keeps_plainly, value_of, values_of_no_text,
)

FOURTEEN = [*PLACES_OF_N, *PLACES_OF_M]


def reads(places):
    return [("read", place) for place in places]


def example(**named):
    return Program([[("cut", 1)], [("test", "n"), ("look", "n")]], first="n+1", **named)


class TestMaking(Checks):
    def test_examples_of_the_document(self):
        program = example()
        self.assertEqual(
            [len(program), [str(place) for place in program.places()], program.unknowns(), program.page],
            [3, ["n+1", "1", "n"], ["n"], None],
        )
        settings = [Setting({"n": 7}, page=64), Setting({"n": 7}, page=16), "n"]
        self.assertEqual([program.allows(setting) for setting in settings], [True, False, False])
        steps = [("lock", "a"), ("lock", "a")]
        self.refused(InvalidHand, {"value": steps}, program.with_hand, 0, steps)
        self.assertEqual(steps, [("lock", "a"), ("lock", "a")])

    def test_hands_have_places(self):
        program = Program(
            (
                (("write", "n", 3, "x"), ("lock", "a")),
                [("sync", Place("m"), "m+1"), ("store", "0", "y"), ("test", "n-3"), ("unlock", "b")][:3],
                (),
            ),
            first="2",
        )
        n, m = Place("n"), Place("m")
        self.assertEqual(program.hands(), [
            [("write", n, Place(shift=3), "x"), ("lock", "a")],
            [("sync", m, m + 1), ("store", Place(), "y"), ("test", n - 3)],
            [],
        ])
        self.assertEqual([type(hand) for hand in program.hands()], [list] * 3)
        self.assertEqual({type(step) for hand in program.hands() for step in hand}, {tuple})
        self.assertEqual(program.first, Place(shift=2))
        self.assertIsInstance(program.first, Place)
        self.assertEqual([program.facts, program.page, len(program)], [Facts(), None, 5])

    def test_names_of_the_arguments(self):
        facts = Facts(("page", "n"))
        program = Program(facts=facts, page=31, first=0, hands=[[]])
        self.assertEqual([program.hands(), program.first, program.facts, program.page], [[[]], Place(), facts, 31])
        self.assertEqual([len(program), program.places(), program.unknowns()], [0, [Place()], ["n"]])
        for call in [lambda: Program([[]]), lambda: Program([[]], 0)]:
            self.assertRaises(TypeError, call)

    def test_page_sizes(self):
        for page in (1, 2, 31, None):
            self.assertEqual(Program([[]], first="n", page=page).page, page)

    def test_facts_or_none(self):
        for facts in (None, Facts()):
            self.assertEqual(Program([[]], first="n", facts=facts).facts, Facts())

    def test_hands_of_twelve_steps_and_of_none(self):
        full = [("read", "n")] * 12
        program = Program([full, [], full], first="n")
        self.assertEqual([len(program), [len(hand) for hand in program.hands()]], [24, [12, 0, 12]])
        self.assertEqual(len(Program([full] * 3, first=0)), 36)

    def test_places_in_the_order_in_which_they_appear(self):
        program = Program(
            [[("lock", "n"), ("write", "n+1", 2, "x")], [("cut", "m"), ("sync", "2", "n")],
             [("cut", "n+1"), ("test", 0)]],
            first="m", facts=Facts(("at_most", 1, "m-3")),
        )
        self.assertEqual([str(place) for place in program.places()], ["m", "n+1", "2", "n", "0"])
        self.assertTrue(all(isinstance(place, Place) for place in program.places()))
        self.assertEqual(program.unknowns(), ["m", "n"])

    def test_places_told_twice_in_unlike_forms(self):
        steps = [("sync", 3, "3"), ("write", Place(shift=3), "n", "x"), ("cut", Place("n"))]
        self.assertEqual([str(place) for place in Program([steps], first="n").places()], ["n", "3"])

    def test_unknowns_of_the_facts_alone(self):
        program = Program([[("cut", "n")]], first=0, facts=Facts(("page", "k")))
        self.assertEqual([program.unknowns(), [str(place) for place in program.places()]], [["k", "n"], ["0", "n"]])
        self.assertEqual(Program([[]], first=1).unknowns(), [])

    def test_fourteen_places(self):
        program = Program([reads(FOURTEEN[:9]), reads(FOURTEEN[9:])], first="n", facts=Facts(("page", "m")))
        self.assertEqual([str(place) for place in program.places()], ["n", "n-3", "n-2", "n-1", *FOURTEEN[4:]])

    def test_what_was_passed_or_told_may_change(self):
        hand = [("cut", 1)]
        hands = [hand, [("lock", "a")]]
        program = Program(hands, first="n")
        self.assertEqual(hands, [[("cut", 1)], [("lock", "a")]])
        hand.append(("cut", 2))
        hands.append([])
        for told in (program.hands(), program.places(), program.unknowns()):
            told.clear()
        program.hands()[1].append(("cut", "m"))
        self.assertEqual(program, Program([[("cut", 1)], [("lock", "a")]], first="n"))
        self.assertEqual([[str(place) for place in program.places()], program.unknowns()], [["n", "1"], ["n"]])
        self.assertEqual(len(program), 2)

    def test_never_changes(self):
        program = example()
        for name in ("first", "facts", "page"):
            with self.assertRaises(AttributeError):
                setattr(program, name, None)
        self.assertEqual(program, example())

    def test_repr_is_a_string(self):
        self.assertIsInstance(repr(example()), str)
        self.assertIsInstance(repr(Program([[]], first=0, facts=Facts(("page", "n")), page=3)), str)


class TestWrong(Checks):
    def test_hands_that_are_no_list_of_one_to_three(self):
        for hands in [value for value in any_values() if not isinstance(value, (list, tuple))] + [[], (), [[]] * 4]:
            self.refused(InvalidProgram, {"value": hands}, Program, hands, first=4, facts=0, page=0)

    def test_hands_that_are_no_lists_of_at_most_twelve(self):
        no_lists = [value for value in any_values() if not isinstance(value, (list, tuple))]
        for hand in no_lists + [[("cut", 1)] * 13, (("read", 4),) * 13]:
            self.refused(InvalidHand, {"value": hand}, Program, [hand], first=4, facts=0, page=0)
            self.refused(InvalidHand, {"value": hand}, Program, ([("cut", 1)], hand, [("cut",)]), first=4)

    def test_items_that_are_no_steps(self):
        for step in any_values() + [("cut", 4), ["cut", 1], ("lock", "A")]:
            self.refused(InvalidStep, {"value": step}, Program, [[("cut", 1), step, ("cut",)]], first=4, facts=0)
            self.refused(InvalidStep, {"value": step}, Program, [[], (step,), 7], first=4, page=0)

    def test_locks(self):
        a, b = ("lock", "a"), ("lock", "b")
        free, free_b = ("unlock", "a"), ("unlock", "b")
        for hand in [
            [a, a], [free], [a, free, free], [a, b, a], [b, free], [a, free, a, a], (a, b, free_b, free, free),
        ]:
            self.refused(InvalidHand, {"value": hand}, Program, [[a, free], hand], first=4, facts=0)
        for hand in [[a, free, a], [a, b, free, free_b], [a, b, free_b, free], [a, free, a, free], [a], [a, b]]:
            self.assertEqual(Program([hand, hand], first=0).hands(), [hand, hand])

    def test_order_of_the_checks_within_the_hands(self):
        locks, wrong, no_list = [("lock", "a"), ("lock", "a")], ("cut",), 7
        self.refused(InvalidHand, {"value": locks}, Program, [locks, [wrong]], first=0)
        self.refused(InvalidStep, {"value": wrong}, Program, [[*locks, wrong], no_list], first=0)
        self.refused(InvalidHand, {"value": no_list}, Program, [no_list, [wrong], locks], first=0)
        self.refused(InvalidStep, {"value": wrong}, Program, [[wrong], no_list, locks], first=0)

    def test_first(self):
        for first in values_of_no_text() + [4, -1, "n+0", ""]:
            self.refused(InvalidPlace, {"value": first}, Program, [[]], first=first, facts=0, page=0)

    def test_facts(self):
        for facts in [value for value in any_values() if not (value is None or isinstance(value, Facts))]:
            self.refused(InvalidFacts, {"value": facts}, Program, [[]], first=0, facts=facts, page=0)

    def test_page_sizes(self):
        hands = [reads(["n", "m", "k"])]
        for page in values_of_no_text()[1:] + [0, 32, -1, SIXTY_DIGITS, "7"]:
            self.refused(InvalidInteger, {"value": page}, Program, hands, first=0, page=page)

    def test_too_many_places(self):
        for hands, first, facts in [
            ([reads(FOURTEEN[:12]), reads(FOURTEEN[12:])], 0, None),
            ([reads(FOURTEEN[:11]), (), reads(FOURTEEN[11:])], "n", Facts(("page", 0))),
            ([reads(FOURTEEN[:6]), reads(FOURTEEN[6:12])], 0, Facts(("at_most", "m+2", "m+3"))),
        ]:
            self.refused(InvalidProgram, {"value": hands}, Program, hands, first=first, facts=facts)
        self.assertEqual(len(Program([reads(FOURTEEN[:6]), reads(FOURTEEN[6:12])], first=0, facts=Facts(
            ("at_most", "m+2", "n"))).places()), 13)

    def test_too_many_unknowns(self):
        for hands, first, facts, page in [
            ([reads(["n", "m"])], "k", None, None), ([reads(["n"])], "m", Facts(("page", "k")), None),
            ([reads(["n"])], "m", None, 31), ([[]], "n", Facts(("page", "m")), 1),
            ([[]], 0, Facts(("at_most", "n", "m")), 3),
        ]:
            self.refused(InvalidProgram, {"value": hands}, Program, hands, first=first, facts=facts, page=page)


class TestAllows(Checks):
    def test_against_the_words_of_the_document(self):
        rows = [("at_most", 1, "n"), ("page", "m+1")]
        found = []
        for page in (None, 4, 31):
            names = ["n", "m"] if page is None else ["n"]
            kept = rows if page is None else rows[:1]
            places = ["n-2", "m-3", 0] if page is None else ["n-2", 0]
            program = Program([reads(places)], first="n", facts=Facts(*kept), page=page)
            for great in (1, 4, 31, 32, 33, 64):
                for n in range(5):
                    for m in (1, 2, 3, 31, 32, 63, 128):
                        sizes = {"n": n, "m": m}
                        setting = Setting({name: sizes[name] for name in names}, page=great)
                        wanted = great >= 32 if page is None else great == page
                        wanted = wanted and keeps_plainly(kept, sizes, great)
                        wanted = wanted and all(value_of(place, sizes) >= 0 for place in places)
                        self.assertIs(program.allows(setting), wanted, (page, setting))
                        found.append(wanted)
        self.assertGreater(found.count(True), 20)

    def test_places_of_the_facts_alone_may_be_below_zero(self):
        program = Program([[]], first="n", facts=Facts(("at_most", "n-3", "n-2")))
        self.assertIs(program.allows(Setting({"n": 0})), True)
        self.assertIs(Program([[]], first="n-1").allows(Setting({"n": 0})), False)
        self.assertIs(Program([[("sync", 0, "n-1")]], first="n").allows(Setting({"n": 0})), False)

    def test_other_unknowns(self):
        program = example()
        self.assertIs(program.allows(Setting({"n": 1, "m": 0})), True)
        self.assertIs(program.allows(Setting({"m": 1, "k": 0})), False)
        self.assertIs(Program([[]], first=0).allows(Setting({})), True)
        self.assertIs(Program([[]], first=0, facts=Facts(("page", "n"))).allows(Setting({})), False)

    def test_great_sizes(self):
        program = Program([[]], first="n", facts=Facts(("page", "n")))
        self.assertIs(program.allows(Setting({"n": 10 ** 59}, page=10 ** 58)), True)
        self.assertIs(program.allows(Setting({"n": SIXTY_DIGITS}, page=10 ** 58)), False)

    def test_any_value(self):
        for value in [value for value in any_values() if not isinstance(value, Setting)]:
            self.assertIs(example().allows(value), False)
        self.assertIs(example().allows(value=Setting({"n": 1})), True)


class TestStepAndWithHand(Checks):
    def test_step(self):
        program = Program([[("cut", 1)], [("test", "n"), ("lock", "a")], []], first="n+1")
        for hand, steps in enumerate(program.hands()):
            for index, step in enumerate(steps):
                self.assertEqual(program.step(hand, index), step)
                self.assertIs(type(program.step(index=index, hand=hand)), tuple)

    def test_wrong_indexes(self):
        program = Program([[("cut", 1)], [("test", "n"), ("lock", "a")], []], first="n+1")
        for value in values_of_no_text() + ["0", -1, 3, SIXTY_DIGITS]:
            self.refused(InvalidInteger, {"value": value}, program.step, value, None)
            self.refused(InvalidInteger, {"value": value}, program.step, 1, value)
            self.refused(InvalidInteger, {"value": value}, program.with_hand, value, 7)
        for hand, index in [(0, 1), (1, 2), (2, 0)]:
            self.refused(InvalidInteger, {"value": index}, program.step, hand, index)

    def test_with_hand(self):
        facts = Facts(("page", "n"))
        program = Program([[("cut", 1)], [("test", "n")]], first="n+1", facts=facts, page=8)
        steps = [("store", "n", "x"), ("lock", "a")]
        for given in (steps, tuple(steps)):
            found = program.with_hand(0, given)
            self.assertEqual(found, Program([steps, [("test", "n")]], first="n+1", facts=facts, page=8))
        self.assertEqual(program.with_hand(steps=[], hand=1).hands(), [[("cut", Place(shift=1))], []])
        self.assertEqual(program, Program([[("cut", 1)], [("test", "n")]], first="n+1", facts=facts, page=8))
        steps.append(("cut", 0))
        self.assertEqual(len(found), 3)

    def test_wrong_steps_of_a_hand(self):
        program = Program([[("cut", 1)], [("test", "n")]], first="n+1", page=8)
        no_lists = [value for value in any_values() if not isinstance(value, (list, tuple))]
        for steps in [*no_lists, [("cut", 1)] * 13, [("lock", "a")] * 2, (("unlock", "a"),)]:
            self.refused(InvalidHand, {"value": steps}, program.with_hand, 1, steps)
        for step in any_values():
            self.refused(InvalidStep, {"value": step}, program.with_hand, 0, [("lock", "a"), ("lock", "a"), step])

    def test_beyond_the_limits(self):
        program = Program([[("cut", 1)], reads(FOURTEEN[:12])], first=1)
        steps = [("cut", "m+2"), ("sync", 0, 1)]
        for hand, given, wanted in [
            (0, steps, [steps, reads(map(Place.of, FOURTEEN[:12]))]), (1, [("sync", "n", "m"), ("cut", "k")], None),
        ]:
            with self.assertRaises(InvalidProgram) as caught:
                program.with_hand(hand, given)
            self.assertIs(type(caught.exception.value), list)
            self.assertIsNot(caught.exception.value, given)
            if wanted:
                self.assertEqual(caught.exception.value, wanted)
        with self.assertRaises(InvalidProgram):
            Program([[("cut", "n")]], first=0, page=8).with_hand(0, [("sync", "n", "m")])
        self.assertEqual(len(program.with_hand(0, [("cut", "m+2")]).places()), 14)


class TestEqual(Checks):
    def test_by_hands_first_facts_and_page(self):
        one = example(facts=Facts(("at_most", 1, "n")), page=8)
        hands = [[("cut", "1")], [("test", Place("n")), ("look", "n")]]
        self.assertTrue(one == Program(tuple(hands), first=Place("n") + 1, facts=Facts(("at_most", "1", "n")), page=8))
        for other in [
            example(facts=Facts(("at_most", 1, "n")), page=9), example(facts=Facts(("at_most", 1, "n"))),
            example(facts=Facts(("at_most", 2, "n")), page=8), example(page=8),
            Program(hands, first="n", facts=Facts(("at_most", 1, "n")), page=8),
            Program(hands[::-1], first="n+1", facts=Facts(("at_most", 1, "n")), page=8),
            Program([*hands, []], first="n+1", facts=Facts(("at_most", 1, "n")), page=8),
            Program([[("cut", 0)], hands[1]], first="n+1", facts=Facts(("at_most", 1, "n")), page=8),
        ]:
            self.assertIs(one == other, False)
            self.assertIs(one != other, True)
        self.assertTrue(Program([[]], first=0) == Program([()], first="0", facts=Facts()))

    def test_to_no_other_class(self):
        program = example()
        others = [value for value in any_values() if not isinstance(value, Program)]
        for value in [*others, program.hands(), program.facts, program.first]:
            self.assertIs(program == value, False)
            self.assertIs(value == program, False)
