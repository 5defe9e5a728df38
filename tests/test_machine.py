"""[61] to [66] and what [9] says of them: the machine."""

import random

from mapsizes.errors import InvalidInteger, InvalidPlace, InvalidProgram, InvalidSetting, InvalidWeaving, NotReady
from mapsizes.facts import Facts
from mapsizes.kinds import case_of, same_kind
from mapsizes.machine import Machine, run
from mapsizes.places import Place
from mapsizes.programs import Program
from mapsizes.settings import Setting
from tests.helper import (
    PLACES_OF_N, SIXTY_DIGITS, Checks, PlainMachine, any_values, chosen_program, chosen_setting, values_of_no_text,
)


def alone(steps, first, n=40, page=32, more=()):
    """A machine of one hand with these steps, and of a second one that names further places."""
    hands = [steps, [("test", place) for place in more]]
    return Machine(Program(hands, first=first, page=page if page < 32 else None), Setting({"n": n}, page=page))


def turns(machine, count):
    """The answers of the first hand for so many turns."""
    return [machine.take(0) for _ in range(count)]


class TestMaking(Checks):
    def test_begin(self):
        program = Program([[("cut", 1)], [], [("lock", "a")]], first="n+1")
        machine = Machine(program, Setting({"n": 2, "m": 7}, page=99))
        self.assertEqual([machine.ready(), machine.size()], [[0, 2], 3])
        self.assertEqual([machine.byte("1"), machine.byte("n+1"), machine.shown("n+1")], ["old", "end", "zero"])
        self.assertEqual([machine.kept(1), machine.kept("n+1")], [["old"], ["end"]])
        self.assertEqual([machine.ended(hand) for hand in range(3)], [False, True, False])
        self.assertEqual([machine.holds(hand) for hand in range(3)], [[], [], []])
        self.assertEqual(machine.outcome(), (("none",), (), ("none",)))

    def test_names_of_the_arguments(self):
        program, setting = Program([[("cut", 1)]], first="n"), Setting({"n": 2})
        machine = Machine(setting=setting, program=program)
        self.assertEqual(
            [machine.byte(place=1), machine.shown(place="n"), machine.kept(place=1)], ["old", "zero", ["old"]],
        )
        self.assertEqual([machine.ended(hand=0), machine.holds(hand=0), machine.take(hand=0)], [False, [], "done"])
        self.assertEqual(run(weaving=[0], setting=setting, program=program).state(), machine.state())

    def test_wrong_programs_and_settings(self):
        program = Program([[("cut", 1)]], first="n-1", facts=Facts(("page", "n")))
        others = [value for value in any_values() if not isinstance(value, Program)]
        for call in (Machine, lambda *args: run(*args, None)):
            for value in others:
                self.refused(InvalidProgram, {"value": value}, call, value, None)
            settings = [value for value in any_values() if not isinstance(value, Setting)]
            for value in settings + [
                Setting({}), Setting({"n": 33}), Setting({"n": 0}), Setting({"n": 31}, page=31), Setting({"m": 32}),
            ]:
                self.refused(InvalidSetting, {"value": value}, call, program, value)
        self.assertEqual(Machine(program, Setting({"n": 32})).size(), 31)

    def test_equal_only_to_itself(self):
        one, other = alone([], "n"), alone([], "n")
        self.assertEqual(
            [one == one, one == other, one != other, isinstance(repr(one), str)], [True, False, True, True],
        )


class TestSteps(Checks):
    def test_cut_and_growth(self):
        machine = alone([("cut", 2), ("cut", "n"), ("cut", "n"), ("cut", 0), ("cut", 3)], 3, more=(1,))
        found = []
        for _ in range(5):
            found.append([machine.take(0), machine.size(), machine.byte(1), machine.byte(2), machine.byte("n")])
        self.assertEqual(found, [
            ["done", 2, "old", "end", "end"], ["done", 40, "old", "zero", "end"], ["done", 40, "old", "zero", "end"],
            ["done", 0, "end", "end", "end"], ["done", 3, "zero", "zero", "end"],
        ])
        self.assertEqual([machine.shown(3), machine.shown("n")], ["zero", "fails"])

    def test_write_over_one_page_and_over_two(self):
        steps = [("write", 1, 3, "x"), ("write", "n-2", "n+2", "y"), ("write", "n-1", "n+1", "z")]
        machine = alone(steps, 2, n=64, more=("n",))
        self.assertEqual(
            [machine.take(0), machine.size(), machine.byte(1), machine.byte(2 + 1)], ["done", 3, "x", "end"],
        )
        self.assertEqual([machine.take(0), machine.size()], [None, 66])
        self.assertEqual([machine.byte(place) for place in ("n-2", "n-1", "n+1")], ["y", "y", "zero"])
        self.assertEqual(machine.state()[0][0], (("done",), 1))
        self.assertEqual([machine.take(0), machine.byte("n+1"), machine.byte("n+2")], ["done", "y", "end"])
        self.assertEqual([machine.take(0), machine.byte("n-1"), machine.byte("n+1")], [None, "z", "y"])
        self.assertEqual(
            [machine.take(0), machine.byte("n-2"), machine.byte("n-1"), machine.size()], ["done", "y", "z", 66],
        )

    def test_write_takes_a_turn_only_for_pages_with_a_place(self):
        for more, wanted in [((), 1), (("n+1",), 2), (("n+1", "n-1"), 3), (("n-3", 3, 1), 3)]:
            for mark in ("x", "y"):
                machine = alone([("write", 0, "n+2", mark)], 1, n=1000, page=1, more=more)
                many = len({place for place in (0, 1, "n+2", *more) if place != "n+2"})
                self.assertEqual(turns(machine, many), [None] * (many - 1) + ["done"])
                self.assertEqual([machine.byte(place) for place in more], [mark] * len(more))
            self.assertGreaterEqual(many, wanted)

    def test_write_over_all_pages_of_a_great_page_size(self):
        machine = alone([("write", 0, "n+2", "x")], 1, n=7 * 10 ** 50, page=10 ** 50, more=("n-1", "n+1"))
        self.assertEqual(turns(machine, 3), [None, None, "done"])
        self.assertEqual([machine.byte("n+1"), machine.size()], ["x", 7 * 10 ** 50 + 2])

    def test_write_of_none(self):
        for p, q in [("n", "n"), ("n", 1), (3, 3), ("n+2", "n")]:
            machine = alone([("write", p, q, "x"), ("look", 1)], 2, more=("n", 3))
            self.assertEqual([*turns(machine, 2), machine.size()], ["done", "old", 2])
            self.assertEqual([machine.byte(1), machine.kept(1)], ["old", ["old"]])

    def test_write_behind_the_end(self):
        machine = alone([("write", "n", "n+1", "x")], 1, more=(2, "n-1", 0))
        self.assertEqual([machine.take(0), machine.size()], ["done", 41])
        self.assertEqual([machine.byte(place) for place in (0, 1, 2, "n-1", "n", "n+1")],
                         ["old", "zero", "zero", "zero", "x", "end"])
        self.assertEqual([machine.kept(place) for place in (2, "n")], [["zero"], ["x", "zero"]])

    def test_write_within_the_file_keeps_the_size(self):
        machine = alone([("write", 1, 3, "x")], "n", more=(0,))
        self.assertEqual([machine.take(0), machine.size()], ["done", 40])
        self.assertEqual([machine.byte(place) for place in (0, 1, 3)], ["old", "x", "old"])

    def test_write_whose_pages_are_cut_between_its_turns(self):
        program = Program([[("write", "n-1", "n+3", "x"), ("read", "n+1")], [("cut", "n+1"), ("cut", "n+2")]], first=1)
        for weaving, size, answers in [
            ([0, 1, 0, 0], 65, ("done", "end")), ([0, 1, 0, 1, 0], 66, ("done", "zero")),
            ([0, 1, 1, 0, 0], 66, ("done", "x")), ([0, 0, 1, 1, 0], 66, ("done", "zero")),
            ([1, 1, 0, 0, 0], 67, ("done", "x")),
        ]:
            machine = run(program, Setting({"n": 64}), weaving)
            self.assertEqual([machine.size(), machine.outcome()[0]], [size, answers])
            self.assertEqual(machine.byte("n-1"), "x")

    def test_write_whose_first_page_is_cut(self):
        program = Program([[("write", "n-1", "n+3", "x"), ("read", "n")], [("cut", 0)]], first=1)
        machine = run(program, Setting({"n": 64}), [0, 1, 0, 0])
        self.assertEqual(
            [machine.size(), machine.outcome(), machine.byte("n-1")], [0, (("done", "end"), ("done",)), "end"],
        )

    def test_read(self):
        steps = [("read", 1), ("read", 2), ("read", "n"), ("store", 1, "x"), ("read", 1), ("cut", 3), ("read", 2)]
        self.assertEqual(turns(alone(steps, 2), 7), ["old", "end", "end", "done", "x", "done", "zero"])

    def test_look_in_the_file_and_behind_it(self):
        for first, n, page, place, wanted in [
            ("n", 40, 32, "n-1", "old"), ("n", 40, 32, "n", "zero"), ("n", 40, 32, "n+3", "zero"),
            ("n", 62, 32, "n+1", "zero"), ("n", 62, 32, "n+2", "fails"), ("n", 64, 32, "n", "fails"),
            ("n", 65, 32, "n+3", "zero"), (0, 40, 32, 0, "fails"), (0, 40, 32, "n", "fails"), (1, 40, 32, 3, "zero"),
            (1, 32, 32, "n-1", "zero"), (1, 32, 32, "n", "fails"), (1, 3, 2, 1, "zero"), (1, 3, 2, 2, "fails"),
            (3, 3, 1, 2, "old"), (3, 3, 1, 3, "fails"), ("n", 31, 31, "n", "fails"), ("n", 30, 31, "n", "zero"),
        ]:
            machine = alone([("look", place), ("cut", 1)], first, n=n, page=page)
            self.assertEqual(machine.shown(place), wanted)
            self.assertEqual([machine.take(0), machine.ended(0)], [wanted, wanted == "fails"], (first, n, page, place))
            self.assertEqual(machine.ready() == [], wanted == "fails")
            self.assertEqual(machine.outcome()[0], (wanted, "none"))

    def test_store_in_the_file_and_behind_it(self):
        for first, n, page, place, wanted in [
            ("n", 40, 32, "n-1", "x"), ("n", 40, 32, "n", "end"), ("n", 62, 32, "n+1", "end"),
            ("n", 62, 32, "n+2", None), ("n", 64, 32, "n", None), (0, 40, 32, 0, None), (1, 3, 2, 1, "end"),
            (1, 3, 2, 2, None), (3, 3, 1, 3, None), (3, 3, 1, 2, "x"),
        ]:
            machine = alone([("store", place, "x"), ("read", place), ("look", place)], first, n=n, page=page)
            size = machine.size()
            if wanted is None:
                self.assertEqual([machine.take(0), machine.ready(), machine.ended(0)], ["fails", [], True])
                self.assertEqual([machine.shown(place), machine.outcome()[0]], ["fails", ("fails", "none", "none")])
            else:
                self.assertEqual(turns(machine, 3), ["done", wanted, "x"], (first, n, page, place))
                self.assertEqual(machine.kept(place), ["old", "x"] if wanted == "x" else ["end"])
            self.assertEqual(machine.size(), size)

    def test_mark_behind_the_end_is_gone_when_the_size_changes(self):
        for steps, wanted in [
            ([("cut", "n")], "x"), ([("cut", "n+2"), ("cut", "n")], "zero"), ([("cut", "n-1"), ("cut", "n")], "zero"),
            ([("cut", "n+2")], "zero"), ([("write", 0, "n", "y")], "x"), ([("write", 0, "n+1", "y")], "zero"),
            ([("store", "n+1", "y")], "x"), ([("store", "n+2", "y")], "y"), ([("sync", 0, "n+3")], "x"),
            ([("cut", 0), ("cut", "n")], "zero"), ([("write", "n", "n", "y"), ("write", 3, 1, "y")], "x"),
        ]:
            steps = [("store", "n+2", "x"), *steps, ("look", "n+2")]
            machine = alone(steps, "n", n=20)
            self.assertEqual(turns(machine, len(steps))[-1], wanted, steps)

    def test_mark_behind_the_end_does_not_come_into_the_file(self):
        machine = alone([("store", "n", "x"), ("cut", "n+1")], "n")
        self.assertEqual([machine.take(0), machine.shown("n"), machine.byte("n"), machine.kept("n")],
                         ["done", "x", "end", ["end"]])
        self.assertEqual([machine.take(0), machine.shown("n"), machine.byte("n"), machine.kept("n")],
                         ["done", "zero", "zero", ["zero"]])

    def test_places_of_one_value_are_one_byte(self):
        machine = alone([("store", "n-1", "x"), ("read", 2), ("store", 3, "y"), ("look", "n")], "n", n=3)
        self.assertEqual(turns(machine, 4), ["done", "x", "done", "y"])
        self.assertEqual([machine.byte("n-1"), machine.shown("n")], ["x", "y"])

    def test_test(self):
        machine = alone([("test", 1), ("lock", "a"), ("test", 2), ("read", 1)], 2)
        self.assertEqual([*turns(machine, 3), machine.ended(0), machine.ready(), machine.holds(0)],
                         ["more", "done", "end", True, [], []])
        self.assertEqual(machine.outcome()[0], ("more", "done", "end", "none"))

    def test_read_that_ends_does_not_end_the_hand(self):
        machine = alone([("read", "n"), ("read", 0)], 1)
        self.assertEqual([*turns(machine, 2), machine.ended(0)], ["end", "old", True])


class TestLocks(Checks):
    def test_held_and_waited_for(self):
        a, free = ("lock", "a"), ("unlock", "a")
        program = Program([[a, ("cut", 1), free], [a, ("lock", "b"), ("unlock", "b")], [("lock", "c")]], first=2)
        machine = Machine(program, Setting({}))
        self.assertEqual([machine.take(0), machine.ready(), machine.holds(0)], ["done", [0, 2], ["a"]])
        for hand in (1, 3, -1):
            self.refused(NotReady, {"hand": hand}, machine.take, hand)
        self.assertEqual(
            [machine.take(0), machine.ready(), machine.take(0), machine.ready()], ["done", [0, 2], "done", [1, 2]],
        )
        self.assertEqual(
            [machine.take(1), machine.take(1), machine.holds(1), machine.holds(0)], ["done", "done", ["a", "b"], []],
        )
        self.assertEqual(machine.state()[5], (("a", 1), ("b", 1)))
        self.assertEqual(
            [machine.take(1), machine.ended(1), machine.holds(1), machine.state()[5]], ["done", True, [], ()],
        )

    def test_names_that_a_hand_held_when_it_ended(self):
        for last in [("test", 3), ("look", "n"), ("store", "n", "x"), ("read", 3)]:
            program = Program([[("lock", "b"), ("lock", "a"), last], [("lock", "b"), ("lock", "a")]], first=2)
            machine = Machine(program, Setting({"n": 99}))
            self.assertEqual([*turns(machine, 2), machine.holds(0), machine.ready()], ["done", "done", ["a", "b"], [0]])
            machine.take(0)
            self.assertEqual([machine.ended(0), machine.holds(0), machine.ready()], [True, [], [1]])

    def test_waited_for_for_ever(self):
        a, b = ("lock", "a"), ("lock", "b")
        machine = run(Program([[a, b], [b, a]], first=0), Setting({}), [0, 1])
        self.assertEqual([machine.ready(), machine.ended(0), machine.ended(1)], [[], False, False])
        self.assertEqual([machine.holds(0), machine.holds(1)], [["a"], ["b"]])
        self.assertEqual(machine.outcome(), (("done", "none"), ("done", "none")))
        self.assertEqual(machine.state()[5], (("a", 0), ("b", 1)))

    def test_a_hand_does_not_wait_for_itself(self):
        machine = run(Program([[("lock", "a"), ("unlock", "a"), ("lock", "a")], []], first=0), Setting({}), [0, 0])
        self.assertEqual(
            [machine.ready(), machine.take(0), machine.ended(0), machine.holds(0)], [[0], "done", True, []],
        )

    def test_names_and_marks_are_apart(self):
        machine = run(Program([[("lock", "a"), ("store", 0, "a")], [("store", 0, "a")]], first=1), Setting({}), [0])
        self.assertEqual(machine.ready(), [0, 1])


class TestKept(Checks):
    def test_bytes_since_the_begin(self):
        machine = alone([("store", 0, "y"), ("store", 0, "x"), ("write", 0, 1, "y"), ("look", 0)], 2, more=(1,))
        found = []
        for _ in range(4):
            machine.take(0)
            found.append((machine.kept(0), machine.kept(1), machine.kept(2)))
        rest = (["old"], ["end"])
        self.assertEqual(found, [(["old", "y"], *rest), (["old", "x", "y"], *rest), (["old", "x", "y"], *rest),
                                 (["old", "x", "y"], *rest)])

    def test_saved_pages(self):
        for p, q, saved in [
            (0, 1, [0, 3]), (0, "n", [0, 3]), (0, "n+1", [0, 3, "n", "n+1"]), ("n", "n+1", ["n", "n+1"]),
            (3, "n-1", [0, 3]), ("n-1", "n", [0, 3]), ("n-1", "n+1", [0, 3, "n", "n+1"]), ("n+1", "n+2", ["n", "n+1"]),
            ("n", "n", []), ("n+1", "n", []), (0, 0, []), ("n+2", 0, []), (1, 3, [0, 3]),
        ]:
            places = (0, 3, "n", "n+1")
            steps = [*[("store", place, "x") for place in places], ("sync", p, q)]
            machine = alone(steps, "n+2", n=32, more=("n-1", 1))
            self.assertEqual(turns(machine, 5), ["done"] * 5)
            for place in places:
                self.assertEqual(machine.kept(place), ["x"] if place in saved else ["old", "x"], (p, q, place))

    def test_sync_behind_the_end(self):
        machine = alone([("store", "n", "x"), ("sync", "n+2", "n+3"), ("store", "n", "y")], "n+1", n=40, more=("n+3",))
        self.assertEqual([*turns(machine, 2), machine.kept("n"), machine.kept("n+3")], ["done", "done", ["x"], ["end"]])
        self.assertEqual([machine.take(0), machine.kept("n")], ["done", ["x", "y"]])
        machine = alone([("store", "n", "x"), ("sync", "n+2", "n+3")], "n+1", n=62)
        self.assertEqual([*turns(machine, 2), machine.kept("n")], ["done", "done", ["old", "x"]])

    def test_saved_between_the_turns_of_a_write(self):
        program = Program([[("write", "n-1", "n+1", "x")], [("sync", "n-1", "n+1"), ("store", "n", "y")]], first="n+1")
        for weaving, wanted in [
            ([0, 1, 0, 1], [["x"], ["old", "x", "y"]]), ([0, 0, 1, 1], [["x"], ["x", "y"]]),
            ([1, 0, 0, 1], [["old", "x"], ["old", "x", "y"]]),
        ]:
            machine = run(program, Setting({"n": 64}), weaving)
            self.assertEqual([machine.kept("n-1"), machine.kept("n")], wanted)

    def test_a_place_that_comes_into_the_file(self):
        steps = [("store", 1, "x"), ("cut", 1), ("cut", 3), ("store", 1, "y"), ("cut", "n"), ("cut", 2)]
        machine = alone(steps, 2, more=(0,))
        found = []
        for _ in range(6):
            machine.take(0)
            found.append((machine.kept(0), machine.kept(1), machine.kept(2)))
        self.assertEqual(found, [
            (["old"], ["old", "x"], ["end"]), (["old"], ["end"], ["end"]), (["old"], ["zero"], ["zero"]),
            (["old"], ["y", "zero"], ["zero"]), (["old"], ["y", "zero"], ["zero"]), (["old"], ["y", "zero"], ["end"]),
        ])

    def test_a_write_that_makes_room_writes_on_zero(self):
        machine = alone([("write", 1, 3, "x")], 2, more=(0,))
        machine.take(0)
        self.assertEqual([machine.kept(place) for place in (0, 1, 2 + 1)], [["old"], ["old", "x"], ["end"]])
        machine = alone([("write", 1, 3, "x")], 0, more=(0, 2))
        machine.take(0)
        self.assertEqual([machine.kept(place) for place in (0, 1, 2)], [["zero"], ["x", "zero"], ["x", "zero"]])

    def test_lists_that_were_told_may_change(self):
        machine = alone([("lock", "a"), ("store", 0, "x")], 1)
        machine.take(0)
        state = machine.state()
        for told in (machine.ready(), machine.kept(0), machine.holds(0)):
            told.clear()
        self.assertEqual(
            [machine.ready(), machine.kept(0), machine.holds(0), machine.state()], [[0], ["old"], ["a"], state],
        )


class TestTelling(Checks):
    def test_examples_of_the_document(self):
        program = Program([[("cut", 1)], [("test", "n"), ("look", "n")]], first="n+1")
        self.assertEqual(run(program, Setting({"n": 40}), [1, 0, 1]).outcome(), (("done",), ("more", "fails")))
        self.assertEqual(run(program, Setting({"n": 20}), [1, 0, 1]).outcome(), (("done",), ("more", "zero")))
        saved = Program([[("store", "n", "x"), ("sync", "n", 1), ("write", "n", "n+2", "y")]], first="n+1")
        machine = Machine(saved, Setting({"n": 31}))
        found = [
            machine.take(0), machine.take(0), machine.take(0), machine.size(), machine.kept("n"), machine.kept("n+1"),
        ]
        self.assertEqual(found, ["done", "done", None, 33, ["old", "x", "y"], ["zero"]])
        found = [machine.take(0), machine.kept("n+1"), machine.ready(), machine.state()[1]]
        self.assertEqual(found, ["done", ["y", "zero"], [], "n+2"])

    def test_state(self):
        hands = [[("lock", "b"), ("write", "n-1", "n+2", "x")], [("store", 3, "y"), ("lock", "a"), ("read", 3)]]
        program = Program([*hands, [("test", "n")]], first=3)
        machine = run(program, Setting({"n": 64}), [0, 0, 1, 1])
        self.assertEqual(machine.state(), (
            ((("done",), 1), (("done", "done"), 0), ((), 0)),
            "n+2",
            ("y", "x", "end", "zero"),
            ("y", "x", "zero", "zero"),
            (("y", "zero"), ("x", "zero"), ("end",), ("zero",)),
            (("a", 1), ("b", 0)),
        ))
        self.assertEqual([str(place) for place in program.places()], ["3", "n-1", "n+2", "n"])
        for item in [machine.state()[at] for at in (0, 2, 3, 4, 5)]:
            self.assertIs(type(item), tuple)

    def test_text_of_the_size_is_that_of_the_first_place(self):
        for first, n, wanted in [("n", 3, "n"), (3, 3, "3"), ("n+1", 2, "n+1")]:
            machine = alone([("cut", "n"), ("cut", 3)], first, n=n)
            self.assertEqual(machine.state()[1], wanted)
        machine = alone([("cut", 1), ("cut", 3), ("cut", "n")], 0, n=3)
        turns(machine, 3)
        self.assertEqual(machine.state()[1], "3")

    def test_places_of_the_program_only(self):
        program = Program([[("cut", "n"), ("sync", Place("n"), 2)]], first="n+1", facts=Facts(("at_most", 0, "n+2")))
        machine = Machine(program, Setting({"n": 2}))
        calls = (machine.byte, machine.shown, machine.kept)
        for call in calls:
            self.assertEqual(call("n"), call(Place("n")))
            self.assertEqual([call(2), call("2")], [call("n")] * 2)
            for place in ["n+2", 3, 0, "m", Place("n") + 2, Place("m"), *values_of_no_text(), 4, "n+0", "", -1]:
                self.refused(InvalidPlace, {"value": place}, call, place)

    def test_wrong_hands(self):
        machine = alone([("cut", 1)], "n")
        for hand in values_of_no_text() + [2, -1, SIXTY_DIGITS, "0", "", Place()]:
            self.refused(InvalidInteger, {"value": hand}, machine.ended, hand)
            self.refused(InvalidInteger, {"value": hand}, machine.holds, hand)
            self.refused(NotReady, {"hand": hand}, machine.take, hand)
        self.assertEqual(machine.take(0), "done")
        for hand in (0, 1):
            self.refused(NotReady, {"hand": hand}, machine.take, hand)

    def test_nothing_changes_but_by_take(self):
        program = Program([[("lock", "a"), ("store", "n", "x")], [("lock", "a")]], first="n")
        setting = Setting({"n": 20})
        machine = run(program, setting, [0])
        state = machine.state()
        for call in (machine.ready, machine.outcome, machine.size, machine.state, machine.copied):
            call()
        for call in (machine.byte, machine.shown, machine.kept):
            call("n")
        self.refused(NotReady, {"hand": 1}, machine.take, 1)
        self.refused(InvalidPlace, {"value": "n+1"}, machine.kept, "n+1")
        self.assertEqual([machine.state(), machine.ready()], [state, [0]])
        self.assertEqual([setting, len(program)], [Setting({"n": 20}), 3])

    def test_copied(self):
        program = Program([[("lock", "a"), ("store", 0, "x")], [("write", 0, "n", "y"), ("cut", 0)]], first=1)
        machine = run(program, Setting({"n": 64}), [0, 1])
        twin = machine.copied()
        self.assertIsInstance(twin, Machine)
        state = machine.state()
        self.assertEqual([twin.state(), twin.ready(), twin.outcome()], [state, machine.ready(), machine.outcome()])
        self.assertEqual([twin.take(1), twin.size(), machine.size(), machine.state()], ["done", 0, 64, state])
        self.assertEqual([machine.take(0), twin.holds(0), machine.holds(0)], ["done", ["a"], []])
        self.assertEqual([twin.take(0), twin.copied().state() == twin.state(), machine.byte(0)], ["fails", True, "x"])

    def test_hands_of_twelve_steps(self):
        hands = [[("write", hand, "n", "x")] * 12 for hand in range(3)]
        machine = Machine(Program(hands, first=0), Setting({"n": SIXTY_DIGITS}, page=10 ** 50))
        while machine.ready():
            machine.take(machine.ready()[-1])
        self.assertEqual([machine.outcome(), machine.size()], [(("done",) * 12,) * 3, SIXTY_DIGITS])


class TestRun(Checks):
    def test_weavings_that_are_refused(self):
        program = Program([[("cut", 1), ("lock", "a")], [("lock", "a"), ("cut", 2)], []], first=0)
        setting = Setting({})
        no_lists = [value for value in any_values() if not isinstance(value, (list, tuple))]
        wrong = [[2], [3], [-1], [0, 0, 0], [0, 1, 0], [1, 0, 0], [0, True], [None], ["0"], [[0]], (1, 1, 1)]
        for weaving in [*no_lists, *wrong, [0, SIXTY_DIGITS]]:
            self.refused(InvalidWeaving, {"value": weaving}, run, program, setting, weaving)
        for weaving in [[], (), [0, 0], (1, 0, 1, 0), [0, 0, 1, 1]]:
            self.assertIsInstance(run(program, setting, weaving), Machine)

    def test_list_that_was_passed_stays(self):
        weaving = [1, 0, 1]
        program = Program([[("cut", 1)], [("test", "n"), ("look", "n")]], first="n+1")
        machine = run(program, Setting({"n": 40}), weaving)
        self.assertEqual(weaving, [1, 0, 1])
        weaving.append(7)
        self.assertEqual(machine.outcome(), (("done",), ("more", "fails")))
        self.assertEqual(run(program, Setting({"n": 40}), (1, 0, 1)).state(), machine.state())


class TestPromises(Checks):
    def all_told(self, machine, places):
        return [
            machine.ready(), machine.outcome(), machine.state(),
            [(machine.byte(place), machine.shown(place), machine.kept(place)) for place in places],
        ]

    def walk(self, chosen, program, one, other):
        """Two machines tell the same in turns that are chosen until no hand is ready."""
        places = [str(place) for place in program.places()]
        self.assertEqual(self.all_told(one, places), self.all_told(other, places))
        while one.ready():
            hand = chosen.choice(one.ready())
            self.assertEqual(one.take(hand), other.take(hand))
            self.assertEqual(self.all_told(one, places), self.all_told(other, places))
            for hand in range(len(program.hands())):
                self.assertEqual(one.holds(hand), other.holds(hand))

    def test_against_a_machine_that_goes_byte_by_byte(self):
        chosen, found = random.Random(5), 0
        for count in range(900):
            page = chosen.choice([None, None, 1, 2, 3, 5, 31])
            counts = chosen.choice([(4,), (12,), (3, 3), (5, 0), (3, 3, 2), (6, 4, 2), (12, 12, 12)])
            program = chosen_program(chosen, counts, two=page is None and chosen.randrange(2) == 0, page=page)
            setting = chosen_setting(chosen, program)
            if setting is not None:
                found += 1
                machine, plain = Machine(program, setting), PlainMachine(program, setting)
                self.assertEqual(machine.size(), len(plain.file))
                self.walk(chosen, program, machine, plain)
                self.assertEqual([machine.size(), machine.ready()], [len(plain.file), []])
                self.assertEqual([machine.ended(hand) for hand in range(len(counts))], plain.over)
        self.assertGreater(found, 800)

    def test_settings_of_one_kind_have_the_same_machine(self):
        chosen, found = random.Random(6), 0
        for count in range(300):
            page = chosen.choice([None, None, None, 2, 31])
            facts = chosen.choice([None, Facts(("at_most", 1, "n"))])
            program = chosen_program(chosen, (4, 4), two=page is None and count % 2 == 0, page=page, facts=facts)
            setting = chosen_setting(chosen, program, great=True)
            if setting is not None:
                found += 1
                case = case_of(setting, program.places(), program.facts, page=page)
                self.assertTrue(same_kind(setting, case, program.places()))
                self.assertTrue(program.allows(case))
                self.walk(chosen, program, Machine(program, setting), Machine(program, case))
                self.walk(chosen, program, Machine(program, setting), PlainMachine(program, case))
        self.assertGreater(found, 200)

    def test_the_same_turns_are_refused(self):
        chosen = random.Random(7)
        program = Program([[("write", "n", "n+3", "x"), ("test", "n+1")], [("cut", "n+1"), ("cut", 2)]], first="n")
        for n, small in [(10 ** 59 - 1, 95), (10 ** 59 - 2, 94), (10 ** 59, 96), (10 ** 58 + 77, 80)]:
            great, small = Setting({"n": n}, page=10 ** 57), Setting({"n": small})
            self.assertTrue(same_kind(great, small, program.places()))
            for _ in range(60):
                weaving = [chosen.randrange(2) for _ in range(chosen.randrange(1, 7))]
                found = []
                for setting in (great, small):
                    try:
                        found.append(run(program, setting, weaving).state())
                    except InvalidWeaving:
                        found.append(None)
                self.assertEqual(found[0], found[1])

    def test_all_places_of_one_unknown_at_ends_of_pages(self):
        chosen = random.Random(8)
        for page in (1, 2, 31, 10 ** 58):
            for n in (3, 5, page - 1, page, page + 1, 5 * page + 2, 5 * page - 3):
                if 3 <= n:
                    hands = [[("write", 0, "n+3", "x"), ("read", "n")], [("cut", "n-2"), ("write", "n-3", "n+2", "y")]]
                    more = [("sync", "n-1", "n+1"), ("look", "n+2"), ("sync", 1, 3), ("look", 2)]
                    program = Program([*hands, more], first="n", page=page if page < 32 else None)
                    setting = Setting({"n": n}, page=page)
                    case = case_of(setting, program.places(), page=program.page)
                    self.walk(chosen, program, Machine(program, setting), PlainMachine(program, case))
        self.assertEqual(len(PLACES_OF_N), 7)
