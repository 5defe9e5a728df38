"""[91] to [93] and what [9] says of them: what is kept, stores that are lost, and syncs."""

import random

from mapsizes.errors import InvalidInteger, InvalidPlace, InvalidProgram, InvalidStep, InvalidText
from mapsizes.facts import Facts
from mapsizes.keeping import can_keep, kept_lists, losses, saved, sure_byte
from mapsizes.machine import Machine, run
from mapsizes.outcomes import cases_of
from mapsizes.places import Place
from mapsizes.programs import Program
from mapsizes.settings import Setting
from mapsizes.weavings import weavings
from tests.helper import (
    PLACES_OF_N, SIXTY_DIGITS, Checks, all_runs, any_values, chosen_facts, chosen_program, complete_runs,
    settings_around, values_of_no_text,
)

COUNTS = [(3,), (2, 2), (3, 1), (2, 1, 1), (4,), (1, 1, 2)]
PAGES = [None, None, 1, 2, 3, 31]
HASTY = Program([[("cut", 1), ("store", "n", "x")]], first="n+1")
SYNCED = Program([[("store", "n", "x"), ("sync", "n", "n+1")]], first="n+1")
BARRED = Program([[("store", 1, "x"), ("sync", 0, "n")]], first="n-3", facts=Facts(("at_most", "n", 2)))


def some_programs(seed, count, words=("store", "sync")):
    """Small programs in which one of these words stands, and the indexes of its steps."""
    chosen = random.Random(seed)
    while count > 0:
        page = chosen.choice(PAGES)
        two = page is None and count % 2 == 0
        facts = chosen_facts(chosen, two) if count % 3 == 0 else None
        program = chosen_program(chosen, chosen.choice(COUNTS), two=two, page=page, facts=facts, pools=(2, 3, 4))
        if any(step[0] in words for hand in program.hands() for step in hand):
            count -= 1
            yield chosen, program


def steps_with(program, word):
    rows = enumerate(program.hands())
    return [(hand, index) for hand, steps in rows for index, step in enumerate(steps) if step[0] == word]


def before_step(program, setting, weaving, hand, step):
    """The plain machine ahead of the turn in which a step of one turn is completed, or None if it never is."""
    runs = dict((tuple(done), machine) for done, machine in all_runs(program, setting))
    for count in range(len(weaving)):
        machine = runs[tuple(weaving[:count])]
        if weaving[count] == hand and len(machine.answers[hand]) == step:
            return machine
    return None


def loss_of(program, setting, weaving, hand, step):
    """What becomes of a store in a complete weaving, by a machine of the package."""
    place = program.step(hand, step)[1]
    machine = Machine(program, setting)
    done = 0
    for taken in weaving:
        inside = machine.byte(place) != "end"
        answer = machine.take(taken)
        if taken == hand and answer is not None:
            done += 1
            if done == step + 1:
                return "fails" if answer == "fails" else "written" if inside else "tail"
    return "none"


class TestKept(Checks):
    def test_against_all_weavings(self):
        several, searched = 0, 0
        for chosen, program in some_programs(31, 70):
            texts = [str(place) for place in program.places()]
            found = {text: kept_lists(program, text) for text in texts}
            for text, rows in found.items():
                self.assertIs(type(rows), list)
                told = [kept for kept, _, _ in rows]
                self.assertEqual(told, sorted(set(told)))
                several += len(told) > 1
            reached = {text: set() for text in texts}
            settings = cases_of(program)
            for case in settings:
                runs = complete_runs(program, case, most=250)
                searched += runs is not None
                self.agree(case, runs, found, reached)
            for text in texts:
                self.assertLessEqual(reached[text], {kept for kept, _, _ in found[text]})
                self.told_runs(program, text, found[text], settings)
                self.at_other_settings(chosen, program, text, found[text])
        self.assertGreater(several, 40)
        self.assertGreater(searched, 500)

    def agree(self, case, runs, found, reached):
        """The least weavings that are told for a case are those of the plain machine."""
        if runs is None:
            return
        for text, rows in found.items():
            least = {}
            for weaving, machine in runs:
                least.setdefault(tuple(machine.kept(text)), weaving)
            reached[text] |= set(least)
            for kept, setting, weaving in rows:
                if setting == case:
                    self.assertEqual(weaving, least[kept])

    def told_runs(self, program, text, rows, settings):
        for kept, case, weaving in rows:
            self.assertIs(type(weaving), list)
            self.assertIn(case, settings)
            machine = run(program, case, weaving)
            self.assertEqual([machine.ready(), machine.kept(text)], [[], list(kept)])
        for byte in ("old", "zero", "end", "x", "y", "z", "other"):
            held = can_keep(program, text, byte)
            self.assertEqual(held is not None, any(byte in kept for kept, _, _ in rows))
            if held is not None:
                self.assertIs(type(held), tuple)
                machine = run(program, *held)
                self.assertEqual([machine.ready(), byte in machine.kept(text)], [[], True])
                self.assertIn(held[0], settings)
        alone = [kept for kept, _, _ in rows if kept in [("old",), ("zero",), ("x",), ("y",), ("z",)]]
        self.assertEqual(sure_byte(program, text), alone[0][0] if len(rows) == 1 and alone else None)

    def at_other_settings(self, chosen, program, text, rows):
        told = [kept for kept, _, _ in rows]
        for setting in settings_around(program, chosen, 2):
            for _, weaving in zip(range(25), weavings(program, setting)):
                self.assertIn(tuple(run(program, setting, weaving).kept(text)), told)

    def test_examples_of_the_document(self):
        self.assertEqual([kept for kept, _, _ in kept_lists(HASTY, "n")], [("end",), ("old", "x")])
        self.assertIsNone(sure_byte(HASTY, 1))
        self.assertEqual([sure_byte(SYNCED, "n"), can_keep(SYNCED, "n", "old")], ["x", None])

    def test_least_weavings(self):
        # Fewer turns come first, also where a hand with a greater index has to begin.
        program = Program([[("test", "n"), ("sync", 0, 0), ("store", 0, "x")], [("cut", 0)]], first="n+1")
        found = {kept: weaving for kept, _, weaving in kept_lists(program, 0)}
        self.assertEqual(found, {("end",): [1, 0]})
        program = Program([[("test", "n"), ("sync", 0, 0), ("cut", 1)], [("cut", 1)]], first="n+1",
                          facts=Facts(("at_most", 2, "n")))
        self.assertEqual(kept_lists(program, 0)[0][2], [1, 0])

    def test_quiet_turns_stand_where_the_least_weaving_has_them(self):
        hands = [[("write", "n", "n+3", "x"), ("read", 0)], [("read", 0), ("write", 0, 2, "y"), ("sync", "n", "n")]]
        for first in (0, "n+3"):
            program = Program(hands, first=first, page=1, facts=Facts(("at_most", 3, "n")))
            for text in ("n", "n+3", 0, 2):
                for kept, case, weaving in kept_lists(program, text):
                    runs = complete_runs(program, case)
                    wanted = [done for done, machine in runs if machine.kept(str(text)) == list(kept)]
                    self.assertEqual(weaving, wanted[0])

    def test_a_hand_that_ends_gives_its_names_free(self):
        for last in [("sync", 0, 0), ("read", 0), ("write", 1, 1, "x"), ("sync", "n", "n")]:
            program = Program([[("lock", "a"), last], [("lock", "a"), ("store", 0, "y")]], first="n+1")
            found = kept_lists(program, 0)
            self.assertEqual([(kept, weaving) for kept, _, weaving in found], [(("old", "y"), [0, 0, 1, 1])], last)

            # As long as its last step is not done, the other hand waits.
            hands = [[("lock", "a"), ("sync", 0, 1)], [("lock", "a"), ("store", 0, "x"), last]]
            found = {kept: weaving for kept, _, weaving in kept_lists(Program(hands, first="n+1"), 0)}
            self.assertEqual(found, {("old", "x"): [0, 0, 1, 1, 1], ("x",): [1, 1, 1, 0, 0]})

    def test_turns_of_a_write_that_reach_several_places(self):
        hands = [[("write", "n-1", "n+3", "x")], [("sync", "n", "n+1"), ("read", "n+1"), ("read", "n+2")]]
        for page in (None, 2, 31):
            program = Program(hands, first="n+3", page=page, facts=Facts(("page", "n"), ("at_most", 1, "n")))
            for text in ("n-1", "n", "n+1", "n+2"):
                found = {kept: weaving for kept, _, weaving in kept_lists(program, text)}
                runs = complete_runs(program, cases_of(program)[0])
                wanted = {}
                for weaving, machine in runs:
                    wanted.setdefault(tuple(machine.kept(text)), weaving)
                self.assertEqual(found, wanted)

    def test_hands_that_wait_for_ever(self):
        a, b = ("lock", "a"), ("lock", "b")
        program = Program([[a, b, ("store", 0, "x")], [b, a]], first=1)
        found = [(kept, weaving) for kept, _, weaving in kept_lists(program, 0)]
        self.assertEqual(found, [(("old",), [0, 1]), (("old", "x"), [0, 0, 0, 1, 1])])
        self.assertIsNone(sure_byte(program, 0))

    def test_page_sizes(self):
        hands = [[("store", 0, "x"), ("sync", 1, 2)]]
        for page, wanted in [(None, "x"), (1, None), (2, "x"), (3, "x"), (31, "x")]:
            self.assertEqual(sure_byte(Program(hands, first=3, page=page), 0), wanted)
        hands = [[("store", 0, "x"), ("sync", 2, 3)]]
        for page, wanted in [(None, "x"), (1, None), (2, None), (3, "x"), (31, "x")]:
            self.assertEqual(sure_byte(Program(hands, first=3, page=page), 0), wanted)

    def test_without_settings_and_without_steps(self):
        self.assertEqual([kept_lists(BARRED, 1), can_keep(BARRED, 1, "old"), sure_byte(BARRED, 1)], [[], None, None])
        empty = Program([[], []], first="n", facts=Facts(("at_most", 1, "m")))
        found = kept_lists(empty, "n")
        self.assertEqual([(kept, weaving) for kept, _, weaving in found], [(("end",), [])])
        self.assertEqual(sorted(found[0][1].sizes()), ["m", "n"])
        self.assertIsNone(sure_byte(empty, "n"))

    def test_sure_bytes(self):
        for steps, place, wanted in [
            ([], 0, None), ([("cut", 3)], 2, None), ([("cut", 0), ("cut", 3)], 2, "zero"), ([("cut", 2)], 2, None),
            ([("write", 0, 3, "x"), ("sync", 0, 3)], 2, "x"), ([("write", 0, 3, "x")], 2, None),
            ([("cut", 0), ("cut", 3), ("write", 0, 3, "x"), ("sync", 0, 1)], 2, "x"),
        ]:
            program = Program([steps + [("read", 2), ("read", 0)]], first="n")
            self.assertEqual(sure_byte(program, place), wanted, steps)
        self.assertEqual(sure_byte(Program([[("read", "n")]], first="n+1"), "n"), "old")

    def test_places_in_all_forms(self):
        program = Program([[("store", "n+1", "x"), ("read", 2)]], first="n+2")
        for place in ("n+1", Place("n", shift=1)):
            self.assertEqual([kept for kept, _, _ in kept_lists(program, place)], [("old", "x")])
            self.assertEqual(can_keep(program, place, "x")[1], [0, 0])
        for place in ("2", 2, Place(shift=2)):
            self.assertEqual([kept for kept, _, _ in kept_lists(program, place)], [("end",), ("old",), ("old", "x")])

    def test_names_of_the_arguments(self):
        self.assertEqual(kept_lists(place="n", program=HASTY), kept_lists(HASTY, "n"))
        self.assertEqual(can_keep(byte="x", place="n", program=HASTY), can_keep(HASTY, "n", "x"))
        self.assertEqual(sure_byte(place="n", program=SYNCED), "x")
        self.assertEqual(losses(step=1, hand=0, program=HASTY), losses(HASTY, 0, 1))
        self.assertEqual(saved(step=1, hand=0, program=SYNCED), saved(SYNCED, 0, 1))

    def test_lists_that_were_told_may_change(self):
        for call in (
            lambda: kept_lists(HASTY, "n"), lambda: kept_lists(HASTY, "n")[0][2], lambda: can_keep(HASTY, "n", "x")[1],
            lambda: losses(HASTY, 0, 1), lambda: losses(HASTY, 0, 1)["tail"][1], lambda: saved(SYNCED, 0, 1),
        ):
            told = call()
            wanted = dict(told) if isinstance(told, dict) else list(told)
            told.clear()
            self.assertEqual(call(), wanted)

    def test_eight_steps_at_page_size_one(self):
        hands = [
            [("write", 0, "n+3", "a"), ("write", 0, "n+2", "b"), ("write", "n-2", "n+2", "c")],
            [("write", 0, "n+3", "d"), ("write", 1, "n+1", "e"), ("write", 2, "n", "f")],
            [("write", "n-3", "n+3", "g"), ("sync", "n-1", "n")],
        ]
        program = Program(hands, first=3, page=1)
        found = kept_lists(program, "n-1")
        for kept, case, weaving in found:
            machine = run(program, case, weaving)
            self.assertEqual([machine.kept("n-1"), machine.ready()], [list(kept), []])
        told, chosen = [kept for kept, _, _ in found], random.Random(35)
        for setting in [Setting({"n": 10 ** 59}, page=1), Setting({"n": 4}, page=1)] * 40:
            machine = Machine(program, setting)
            while machine.ready():
                machine.take(chosen.choice(machine.ready()))
            self.assertIn(tuple(machine.kept("n-1")), told)
        self.assertEqual([str(place) for place in saved(program, 2, 1)][:2], ["n+3", "n-1"])


class TestLosses(Checks):
    def test_against_all_weavings(self):
        found_words = []
        for chosen, program in some_programs(32, 90, words=("store",)):
            settings = cases_of(program)
            for hand, step in steps_with(program, "store"):
                found = losses(program, hand, step)
                self.assertIs(type(found), dict)
                found_words.extend(found)
                for word, run_of in found.items():
                    self.assertIs(type(run_of), tuple)
                    case, weaving = run_of
                    self.assertIn(case, settings)
                    self.assertEqual([run(program, case, weaving).ready(), type(weaving)], [[], list])
                    self.assertEqual(loss_of(program, case, weaving, hand, step), word)
                for setting in settings + settings_around(program, chosen, 4):
                    for _, weaving in zip(range(30), weavings(program, setting)):
                        self.assertIn(loss_of(program, setting, weaving, hand, step), found)
        for word in ("written", "tail", "fails", "none"):
            self.assertGreater(found_words.count(word), 20)

    def test_by_the_plain_machine(self):
        for _, program in some_programs(33, 25, words=("store",)):
            for hand, step in steps_with(program, "store"):
                for word, (case, weaving) in losses(program, hand, step).items():
                    machine = before_step(program, case, weaving, hand, step)
                    if machine is None:
                        self.assertEqual(word, "none")
                    else:
                        text = str(program.step(hand, step)[1])
                        inside, shown = machine.byte(text) != "end", machine.shown(text)
                        self.assertEqual(word, "written" if inside else "fails" if shown == "fails" else "tail")

    def test_example_of_the_document(self):
        self.assertEqual(sorted(losses(HASTY, 0, 1)), ["fails", "tail", "written"])

    def test_each_word(self):
        store = ("store", "n", "x")
        for hands, first, wanted in [
            ([[store]], "n+1", ["written"]), ([[store]], "n", ["fails", "tail"]), ([[store]], 0, ["fails"]),
            ([[("test", "n"), store], [("cut", 0)]], "n+1", ["fails", "none", "written"]),
            ([[("lock", "a"), store], [("lock", "a"), ("lock", "b"), ("unlock", "a")]], "n+1", ["written"]),
            ([[("lock", "a"), ("lock", "b"), store], [("lock", "b"), ("lock", "a")]], "n+1", ["none", "written"]),
        ]:
            program = Program(hands, first=first)
            self.assertEqual(sorted(losses(program, 0, len(hands[0]) - 1)), wanted)
        # The second store is at a place that the first one, which writes behind the end, does not bring into the file.
        twice = Program([[("store", 1, "x"), ("store", 1, "x")]], first=1)
        self.assertEqual([sorted(losses(twice, 0, step)) for step in (0, 1)], [["tail"], ["tail"]])

    def test_without_settings(self):
        self.assertEqual([losses(BARRED, 0, 0), saved(BARRED, 0, 1)], [{}, BARRED.places()])

    def test_page_sizes(self):
        for page, wanted in [(None, ["tail"]), (1, ["fails"]), (2, ["fails"]), (3, ["tail"]), (31, ["tail"])]:
            self.assertEqual(sorted(losses(Program([[("store", 2, "x")]], first=1, page=page), 0, 0)), wanted)


class TestSaved(Checks):
    def plain(self, program, hand, step, settings):
        """The texts of the places that a sync surely saves at some settings, or None if there are too many runs."""
        found = {str(place): True for place in program.places()}
        for setting in settings:
            if complete_runs(program, setting, most=250) is None:
                return None
            for weaving, machine in all_runs(program, setting):
                if hand in machine.ready() and len(machine.answers[hand]) == step:
                    twin = machine.copied()
                    twin.take(hand)
                    for text in found:
                        kept = twin.kept(text)
                        found[text] = found[text] and (kept == ["end"] or kept == [twin.byte(text)])
        return [text for text in found if found[text]]

    def test_against_all_weavings(self):
        some, none, seen = 0, 0, 0
        for chosen, program in some_programs(34, 80, words=("sync",)):
            for hand, step in steps_with(program, "sync"):
                found = saved(program, hand, step)
                self.assertIs(type(found), list)
                texts = [str(place) for place in found]
                self.assertEqual(found, [place for place in program.places() if str(place) in texts])
                wanted = self.plain(program, hand, step, cases_of(program)[::-1][:30])
                if wanted is not None:
                    seen += 1
                    self.assertLessEqual(set(texts), set(wanted))
                    if len(cases_of(program)) <= 30:
                        self.assertEqual(texts, wanted)
                some += found != []
                none += len(found) < len(program.places())
                self.at_other_settings(chosen, program, hand, step, found)
        self.assertGreater(some, 50)
        self.assertGreater(none, 15)
        self.assertGreater(seen, 50)

    def at_other_settings(self, chosen, program, hand, step, found):
        for setting in settings_around(program, chosen, 3):
            for _, weaving in zip(range(15), weavings(program, setting)):
                machine, done = Machine(program, setting), 0
                for taken in weaving:
                    answer = machine.take(taken)
                    done += taken == hand and answer is not None
                    if taken == hand and answer is not None and done == step + 1:
                        for place in found:
                            self.assertEqual(len(machine.kept(place)), 1, (program, setting, weaving, place))

    def test_example_of_the_document(self):
        self.assertEqual(saved(SYNCED, 0, 1), [Place("n", shift=1), Place("n")])

    def test_places_that_the_sync_does_not_reach(self):
        hands = [[("store", "n", "x"), ("read", 0), ("sync", 1, 2)]]
        program = Program(hands, first="n+1", facts=Facts(("at_most", 3, "n")))
        # The byte at 0 never changes ahead of the sync, that at n can lie in another page.
        self.assertEqual([str(place) for place in saved(program, 0, 2)], ["n+1", "0", "1", "2"])
        near = Program(hands, first="n+1", facts=Facts(("at_most", "n", 3)))
        self.assertEqual(saved(near, 0, 2), near.places())
        none = Program([[("store", 1, "x"), ("sync", 1, 1)]], first=2)
        self.assertEqual([str(place) for place in saved(none, 0, 1)], ["2"])
        both = Program([[("store", 1, "x"), ("sync", 1, 1)]], first=2, facts=Facts(("at_most", 2, 1)))
        self.assertEqual(saved(both, 0, 1), both.places())

    def test_bytes_that_change_behind_the_sync(self):
        program = Program([[("sync", 0, 1), ("store", 1, "x")]], first=2)
        self.assertEqual(saved(program, 0, 0), program.places())
        self.assertIsNone(sure_byte(program, 1))
        other = Program([[("sync", 0, 1)], [("store", "n", "x")]], first="n+1", facts=Facts(("at_most", 0, "n-3")))
        self.assertEqual([str(place) for place in saved(other, 0, 0)], ["n+1", "0", "1"])

    def test_a_sync_that_never_takes_its_turn(self):
        program = Program([[("store", 0, "x"), ("test", 2), ("sync", 2, 2)]], first=1)
        self.assertEqual(saved(program, 0, 2), program.places())
        waits = Program([[("lock", "a"), ("cut", 3)], [("store", 0, "x"), ("lock", "a"), ("sync", 3, 3)]], first=1)
        self.assertEqual([str(place) for place in saved(waits, 1, 2)], ["1", "3"])

    def test_a_sync_behind_the_end(self):
        hands = [[("write", 0, 1, "x"), ("sync", 1, 3)]]
        for page, wanted in [(None, ["1", "0", "3"]), (1, ["1", "3"]), (2, ["1", "0", "3"])]:
            program = Program(hands, first=1, page=page)
            self.assertEqual([str(place) for place in saved(program, 0, 1)], wanted)
        program = Program([[("write", 0, 1, "x"), ("sync", 2, 3)]], first=1, page=2)
        self.assertEqual([str(place) for place in saved(program, 0, 1)], ["1", "2", "3"])


class TestErrors(Checks):
    def test_programs(self):
        for value in [value for value in any_values() if not isinstance(value, Program)]:
            for call, rest in [
                (kept_lists, (None,)), (can_keep, (None, None)), (sure_byte, (None,)), (losses, (None, None)),
                (saved, (None, None)),
            ]:
                self.refused(InvalidProgram, {"value": value}, call, value, *rest)

    def test_places(self):
        program = Program([[("store", "n", "x")]], first="n+1", facts=Facts(("at_most", 1, "n")))
        places = [1, "1", "m", "n+4", "n+0", 4, -1, Place("n", shift=2), *[text for text in PLACES_OF_N if text < "n"]]
        texts = ["n", Place("n")]
        for value in [value for value in any_values() + places if value not in texts]:
            self.refused(InvalidPlace, {"value": value}, kept_lists, program, value)
            self.refused(InvalidPlace, {"value": value}, can_keep, program, value, None)
            self.refused(InvalidPlace, {"value": value}, sure_byte, program, value)

    def test_bytes(self):
        for value in values_of_no_text() + [0, 1, SIXTY_DIGITS, "", "fails", "more", "done", "none", "X", "x" * 7, "a b"]:
            self.refused(InvalidText, {"value": value}, can_keep, HASTY, "n", value)
        self.assertIsNone(can_keep(HASTY, "n", "zero"))

    def test_steps(self):
        program = Program([[("store", 0, "x"), ("sync", 0, 1)], [("cut", "n")]], first=1)
        for call, wanted, others in [(losses, (0, 0), [(0, 1), (1, 0)]), (saved, (0, 1), [(0, 0), (1, 0)])]:
            call(program, *wanted)
            for value in values_of_no_text() + [-1, 2, SIXTY_DIGITS, "0"]:
                self.refused(InvalidInteger, {"value": value}, call, program, value, None)
                self.refused(InvalidInteger, {"value": value}, call, program, 0, value)
            self.refused(InvalidInteger, {"value": 1}, call, program, 1, 1)
            for hand, step in others:
                self.refused(InvalidStep, {"value": program.step(hand, step)}, call, program, hand, step)
                self.assertEqual(program.hands()[hand][step], program.step(hand, step))
