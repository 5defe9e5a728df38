"""[121] to [124]: a laboratory."""

import random

from mapsizes.errors import (
    InvalidCommand, InvalidFact, InvalidFacts, InvalidHand, InvalidInteger, InvalidPlace, InvalidProgram, InvalidStep,
    MapError, NothingToUndo, NoTrial, StateError,
)
from mapsizes.facts import Facts
from mapsizes.lab import Lab
from mapsizes.likeness import alike
from mapsizes.outcomes import answers
from mapsizes.places import Place
from mapsizes.programs import Program
from mapsizes.settings import Setting
from tests.helper import (
    SIXTY_DIGITS, Checks, any_values, chosen_facts, chosen_hand, chosen_program, values_of_no_text, with_texts,
)

PROGRAM = Program([[("cut", 1)], [("look", "n")]], first="n+1")
N = Place("n")


def placed(step):
    """A step with Place objects."""
    return Program([[("lock", step[1]), step] if step[0] == "unlock" else [step]], first=0).hands()[0][-1]


def chosen_row(chosen, program):
    """A row of a log that can be carried out at a program, or that may be refused."""
    hands, rows = program.hands(), program.facts.rows()
    texts = [str(place) for place in program.places()] + ["n", "0", "n+1"]
    hand = chosen.randrange(len(hands))
    count = len(hands[hand])
    word = chosen.choice(["hand", "put", "put", "take_out", "exchange", "begin_at", "assume", "forget", "put"])
    steps = chosen_hand(chosen, texts, chosen.randrange(4))
    at = chosen.randrange(count + 1)
    if word == "put":
        step = chosen.choice([("cut", "n"), ("lock", "a"), ("unlock", "a"), ("test", "k"), ("look", "n+1")])
        return (word, hand, at, step)
    return {
        "hand": (word, hand, steps), "take_out": (word, hand, at),
        "exchange": (word, hand, at, chosen.randrange(at, count + 1), tuple(steps)),
        "begin_at": (word, chosen.choice([*texts, "m", "n-2"])),
        "assume": (word, ("at_most", chosen.choice(texts), chosen.choice([*texts, "m+1"]))),
        "forget": (word, chosen.randrange(len(rows) + 1)),
    }[word]


def after(program, row):
    """The program with a change, made anew of its parts."""
    hands, first, rows = program.hands(), program.first, program.facts.rows()
    word, *items = row
    if word == "hand":
        hands[items[0]] = items[1]
    elif word == "put":
        hands[items[0]].insert(items[1], items[2])
    elif word == "take_out":
        del hands[items[0]][items[1]]
    elif word == "exchange":
        hands[items[0]][items[1]:items[2]] = items[3]
    elif word == "begin_at":
        first = items[0]
    elif word == "assume":
        rows.append(items[0])
    else:
        del rows[items[0]]
    return Program(hands, first=first, facts=Facts(*rows), page=program.page)


def told(row):
    """A row as the log tells it."""
    word, *items = row
    if word in ("hand", "exchange"):
        return (word, *items[:-1], tuple(placed(step) for step in items[-1]))
    if word == "put":
        return (word, *items[:-1], placed(items[-1]))
    if word == "begin_at":
        return (word, Place.of(items[0]))
    if word == "assume":
        return (word, Facts(items[0]).rows()[0])
    return row


def call_of(lab, row):
    """Makes a change by the call of its name."""
    word, *items = row
    if word == "hand":
        lab[items[0]] = items[1]
        return None
    return getattr(lab, word)(*items)


class TestChanges(Checks):
    def state(self, lab):
        return [lab.program(), lab.log(), len(lab)]

    def unchanged(self, lab, kind, fields, call, *args, **named):
        before = self.state(lab)
        self.refused(kind, fields, call, *args, **named)
        self.assertEqual(self.state(lab), before)

    def with_new_list(self, lab, kind, passed, call, *args):
        before = self.state(lab)
        with self.assertRaises(kind) as caught:
            call(*args)
        self.assertIs(type(caught.exception), kind)
        self.assertIs(type(caught.exception.value), list)
        self.assertIsNot(caught.exception.value, passed)
        self.assertEqual(self.state(lab), before)

    def test_against_programs_made_anew(self):
        chosen, made, refused = random.Random(61), 0, 0
        for number in range(120):
            two = number % 2 == 0
            page = None if two else chosen.choice([None, 1, 31])
            counts = chosen.choice([(2,), (2, 2), (1, 0, 2)])
            program = chosen_program(chosen, counts, two=two, page=page, facts=chosen_facts(chosen, two), pools=(3, 5))
            lab, programs, log = Lab(program), [program], []
            for _ in range(12):
                row = chosen_row(chosen, programs[-1])
                by_row = chosen.randrange(2)
                try:
                    wanted = after(programs[-1], row)
                except MapError as error:
                    refused += 1
                    before = self.state(lab)
                    with self.assertRaises(type(error)):
                        lab.change_by(row) if by_row else call_of(lab, row)
                    self.assertEqual(self.state(lab), before)
                except IndexError:
                    self.unchanged(lab, InvalidInteger, {"value": row[-1]}, call_of, lab, row)
                else:
                    made += 1
                    found = lab.change_by(row) if by_row else call_of(lab, row)
                    self.returned(programs[-1], row, found, by_row)
                    programs.append(wanted)
                    log.append(told(row))
                if chosen.randrange(4) == 0 and log:
                    self.assertIsNone(lab.undo())
                    del programs[-1], log[-1]
                self.assertEqual(self.state(lab), [programs[-1], log, len(log)])
            self.again(program, lab)
            while log:
                lab.undo()
                del programs[-1], log[-1]
                self.assertEqual(self.state(lab), [programs[-1], log, len(log)])
            self.unchanged(lab, NothingToUndo, {}, lab.undo)
        self.assertGreater(made, 500)
        self.assertGreater(refused, 100)

    def returned(self, program, row, found, by_row):
        if row[0] == "take_out" and not by_row:
            self.assertEqual(found, program.step(row[1], row[2]))
        elif row[0] == "forget" and not by_row:
            self.assertEqual(found, program.facts.rows()[row[1]])
        else:
            self.assertIsNone(found)

    def again(self, program, lab):
        """The log, done again in another laboratory, leads to the same program and log."""
        twin, other = Lab(program), Lab(program)
        for row in lab.log():
            twin.change_by(row)
            call_of(other, row)
        self.assertEqual([self.state(twin), self.state(other)], [self.state(lab)] * 2)

    def test_begin(self):
        lab = Lab(program=PROGRAM)
        self.assertEqual(self.state(lab), [PROGRAM, [], 0])
        self.assertEqual([lab[0], lab[1]], PROGRAM.hands())
        lab[0].append(3)
        self.assertEqual(lab[0], [("cut", Place(shift=1))])
        self.assertRaises(TypeError, list, lab)
        self.assertNotEqual(lab, Lab(PROGRAM))
        self.assertIsInstance(repr(lab), str)
        for value in [value for value in any_values() if not isinstance(value, Program)]:
            self.refused(InvalidProgram, {"value": value}, Lab, value)

    def test_wrong_hands(self):
        lab = Lab(PROGRAM)
        for value in values_of_no_text() + [-1, 2, SIXTY_DIGITS, "0", ""]:
            self.unchanged(lab, InvalidInteger, {"value": value}, lambda hand: lab[hand], value)
            self.unchanged(lab, InvalidInteger, {"value": value}, lambda hand: call_of(lab, ("hand", hand, 5)), value)
            self.unchanged(lab, InvalidInteger, {"value": value}, lab.put, value, None, None)
            self.unchanged(lab, InvalidInteger, {"value": value}, lab.take_out, value, None)
            self.unchanged(lab, InvalidInteger, {"value": value}, lab.exchange, value, None, None, None)

    def test_a_hand_with_other_steps(self):
        lab, steps = Lab(PROGRAM), [("test", "n"), ("lock", "a")]
        lab[1] = steps
        self.assertEqual(self.state(lab), [
            PROGRAM.with_hand(1, steps), [("hand", 1, (("test", N), ("lock", "a")))], 1,
        ])
        lab[0] = ()
        self.assertEqual(lab[0], [])
        steps.clear()
        self.assertEqual(len(lab[1]), 2)
        for value in any_values() + [[("cut", 0)] * 13, [("unlock", "a")], (("lock", "a"), ("lock", "a"))]:
            if value not in ([], ()):
                kind = InvalidStep if value in (["n"], ("n",), ("n", 1)) or value == [[("n",)]] else InvalidHand
                kind = InvalidStep if value == ((("n",), 1),) else kind
                field = value[0] if kind is InvalidStep else value
                self.unchanged(lab, kind, {"value": field}, call_of, lab, ("hand", 0, value))
        step = ("cut", "n+0")
        self.unchanged(lab, InvalidStep, {"value": step}, call_of, lab, ("hand", 0, [("cut", 0), step]))
        self.with_new_list(lab, InvalidProgram, None, call_of, lab, ("hand", 0, [("sync", "m", "k")]))

    def test_put(self):
        lab = Lab(Program([[("cut", 1)], []], first="n"))
        self.assertIsNone(lab.put(0, 1, ("look", "n")))
        lab.put(step=("test", 2), at=0, hand=0)
        lab.put(1, 0, ("lock", "a"))
        self.assertEqual([[with_texts(step) for step in lab[hand]] for hand in (0, 1)],
                         [[("test", "2"), ("cut", "1"), ("look", "n")], [("lock", "a")]])
        self.assertEqual(lab.log(), [("put", 0, 1, ("look", N)), ("put", 0, 0, ("test", Place(shift=2))),
                                     ("put", 1, 0, ("lock", "a"))])
        for value in values_of_no_text() + [-1, 4, SIXTY_DIGITS, "0"]:
            self.unchanged(lab, InvalidInteger, {"value": value}, lab.put, 0, value, None)
        self.unchanged(lab, InvalidInteger, {"value": 2}, lab.put, 1, 2, ("cut", 0))
        for value in any_values() + [("cut",), ("cut", 4), ["cut", 0]]:
            self.unchanged(lab, InvalidStep, {"value": value}, lab.put, 1, 1, value)
        self.with_new_list(lab, InvalidHand, None, lab.put, 1, 0, ("lock", "a"))
        self.with_new_list(lab, InvalidHand, None, lab.put, 1, 0, ("unlock", "a"))
        self.with_new_list(lab, InvalidProgram, None, lab.put, 1, 0, ("sync", "m", "k"))
        full = Lab(Program([[("cut", 1)] * 12], first="n"))
        # That there are too many steps is seen ahead of what the step is.
        for step in (("cut", 1), None):
            self.with_new_list(full, InvalidHand, None, full.put, 0, 12, step)

    def test_take_out(self):
        lab = Lab(Program([[("lock", "a"), ("cut", "n"), ("unlock", "a")], []], first="n"))
        self.assertEqual(lab.take_out(at=1, hand=0), ("cut", N))
        self.assertEqual([lab.log(), lab[0]], [[("take_out", 0, 1)], [("lock", "a"), ("unlock", "a")]])
        self.with_new_list(lab, InvalidHand, None, lab.take_out, 0, 0)
        for value in values_of_no_text() + [-1, 2, SIXTY_DIGITS, "0"]:
            self.unchanged(lab, InvalidInteger, {"value": value}, lab.take_out, 0, value)
        self.unchanged(lab, InvalidInteger, {"value": 0}, lab.take_out, 1, 0)

    def test_exchange(self):
        lab = Lab(Program([[("cut", 0), ("cut", 1), ("cut", 2)]], first="n"))
        steps = (("look", 1), ("look", "n"))
        self.assertIsNone(lab.exchange(0, 1, 2, steps))
        self.assertEqual([with_texts(step) for step in lab[0]],
                         [("cut", "0"), ("look", "1"), ("look", "n"), ("cut", "2")])
        self.assertEqual(lab.log(), [("exchange", 0, 1, 2, (("look", Place(shift=1)), ("look", N)))])
        lab.exchange(steps=[], stop=4, start=0, hand=0)
        lab.exchange(0, 0, 0, [("cut", 3)])
        lab.exchange(0, 1, 1, [("cut", 0)])
        self.assertEqual([with_texts(step) for step in lab[0]], [("cut", "3"), ("cut", "0")])
        for value in values_of_no_text() + [-1, 3, SIXTY_DIGITS, "0"]:
            self.unchanged(lab, InvalidInteger, {"value": value}, lab.exchange, 0, value, None, None)
            self.unchanged(lab, InvalidInteger, {"value": value}, lab.exchange, 0, 0, value, None)
        self.unchanged(lab, InvalidInteger, {"value": 0}, lab.exchange, 0, 1, 0, None)
        for value in [value for value in any_values() if not isinstance(value, (list, tuple))]:
            self.unchanged(lab, InvalidHand, {"value": value}, lab.exchange, 0, 0, 2, value)
        step, steps = ("cut", 4), [("cut", 0)] * 12
        self.unchanged(lab, InvalidStep, {"value": step}, lab.exchange, 0, 0, 1, [("cut", 0), step, None])
        self.with_new_list(lab, InvalidHand, steps, lab.exchange, 0, 0, 1, steps)
        lab.exchange(0, 0, 2, steps)
        self.assertEqual(len(lab[0]), 12)
        locks = [("lock", "a"), ("lock", "a")]
        self.with_new_list(lab, InvalidHand, locks, lab.exchange, 0, 0, 12, locks)
        self.with_new_list(lab, InvalidProgram, None, lab.exchange, 0, 0, 1, [("sync", "m", "k")])

    def test_begin_at(self):
        lab = Lab(PROGRAM)
        for place, text in [("n-3", "n-3"), (2, "2"), (Place("m"), "m")]:
            self.assertIsNone(lab.begin_at(place=place))
            self.assertEqual(str(lab.program().first), text)
        self.assertEqual(lab.log(), [("begin_at", N - 3), ("begin_at", Place(shift=2)), ("begin_at", Place("m"))])
        for value in [*values_of_no_text(), "n+0", "", 4, -1]:
            self.unchanged(lab, InvalidPlace, {"value": value}, lab.begin_at, value)
        lab.assume(("page", "m"))
        self.with_new_list(lab, InvalidProgram, None, lab.begin_at, "k")

    def test_assume_and_forget(self):
        lab = Lab(PROGRAM)
        self.assertIsNone(lab.assume(("at_most", "n", "m+1")))
        self.assertEqual(lab.program().unknowns(), ["m", "n"])
        lab.assume(row=("page", 0))
        self.assertEqual(lab.program().facts, Facts(("at_most", "n", "m+1"), ("page", 0)))
        self.assertEqual(lab.log(), [("assume", ("at_most", N, Place("m") + 1)), ("assume", ("page", Place()))])
        for value in any_values() + [["page", "n"], ("page", "n", "n"), ("at_most", "n"), ("page", 4)]:
            self.unchanged(lab, InvalidFact, {"value": value}, lab.assume, value)
        self.with_new_list(lab, InvalidFacts, None, lab.assume, ("page", "k"))
        for value in values_of_no_text() + [-1, 2, SIXTY_DIGITS, "0"]:
            self.unchanged(lab, InvalidInteger, {"value": value}, lab.forget, value)
        self.assertEqual(lab.forget(index=0), ("at_most", N, Place("m", shift=1)))
        self.assertEqual([lab.program().unknowns(), lab.program().facts], [["n"], Facts(("page", 0))])
        self.assertEqual(lab.log()[2:], [("forget", 0)])
        self.assertEqual([lab.forget(0), lab.program()], [("page", Place()), PROGRAM])
        self.unchanged(lab, InvalidInteger, {"value": 0}, lab.forget, 0)
        self.with_new_list(lab, InvalidProgram, None, lab.assume, ("at_most", "m", "k"))
        paged = Lab(Program([[]], first="n", page=4))
        self.with_new_list(paged, InvalidProgram, None, paged.assume, ("page", "m"))

    def test_undo(self):
        lab = Lab(PROGRAM)
        self.unchanged(lab, NothingToUndo, {}, lab.undo)
        lab.begin_at(0)
        lab[0] = []
        lab.undo()
        self.assertEqual([len(lab), lab[0], str(lab.program().first)], [1, PROGRAM.hands()[0], "0"])
        lab.begin_at(3)
        self.assertEqual([lab.undo(), lab.undo()], [None, None])
        self.assertEqual(self.state(lab), [PROGRAM, [], 0])
        self.unchanged(lab, NothingToUndo, {}, lab.undo)

    def test_what_was_told_may_change(self):
        lab = Lab(PROGRAM)
        lab.put(1, 0, ("test", "n"))
        for told_list in (lab.log(), lab[1], lab.answers(1, 1)):
            told_list.clear()
        self.assertEqual([len(lab.log()), len(lab[1]), lab.answers(1, 0)], [1, 2, ["end", "more"]])

    def test_answers_and_parted(self):
        lab = Lab(PROGRAM)
        self.assertIsNone(lab.parted())
        lab.put(1, 0, ("test", "n"))
        self.assertEqual(lab.answers(1, 1), ["fails", "none", "old", "zero"])
        self.assertEqual(lab.answers(step=0, hand=1), answers(lab.program(), 1, 0))
        for value in values_of_no_text() + [-1, 2]:
            self.unchanged(lab, InvalidInteger, {"value": value}, lab.answers, value, None)
            self.unchanged(lab, InvalidInteger, {"value": value}, lab.answers, 1, value)
        setting, outcome, index = lab.parted()
        self.assertEqual(setting.page, 32)
        # The second hand has one step more now.
        self.assertEqual(lab.parted(), alike(PROGRAM, lab.program()))
        self.assertEqual(len(outcome[1]), index + 1)
        lab.undo()
        self.assertIsNone(lab.parted())
        lab.begin_at("n+2")
        lab.put(0, 1, ("cut", 1))
        self.assertIsNotNone(lab.parted())
        lab.assume(("page", "n"))
        found = lab.program()
        self.unchanged(lab, InvalidProgram, {"value": found}, lab.parted)
        with lab.trial():
            lab.forget(0)
            self.assertIsNotNone(lab.parted())
        self.assertRaises(InvalidProgram, lab.parted)

    def test_example_of_the_document(self):
        lab = Lab(PROGRAM)
        lab.put(1, 0, ("test", "n"))
        self.assertEqual([len(lab), lab.answers(1, 1), lab.log()[0][:3]],
                         [1, ["fails", "none", "old", "zero"], ("put", 1, 0)])
        lab.assume(("at_most", "n", 3))
        self.assertEqual([lab.answers(1, 1), lab.forget(0) == ("at_most", N, Place(shift=3)), lab.undo(), len(lab)],
                         [["none", "old", "zero"], True, None, 2])
        self.unchanged(lab, InvalidInteger, {"value": 1}, lab.take_out, 0, 1)


class Model:
    """What [123] says of trials: programs and logs by the levels of the trials."""

    def __init__(self, program):
        self.levels = [[(program, None)]]

    def state(self):
        log = [row for _, row in self.levels[-1][1:]]
        return [self.levels[-1][-1][0], log, len(log)]

    def change(self, row):
        self.levels[-1].append((after(self.levels[-1][-1][0], row), told(row)))

    def undo(self):
        if len(self.levels[-1]) == 1:
            raise NothingToUndo()
        self.levels[-1].pop()

    def begin(self):
        self.levels.append([(self.levels[-1][-1][0], None)])

    def end(self):
        self.levels.pop()

    def keep(self):
        if len(self.levels) == 1:
            raise NoTrial()
        self.levels[-2].extend(self.levels[-1][1:])
        self.levels[-1] = [self.levels[-1][-1]]


class Away(Exception):
    """Leaves a block."""


class TestTrials(Checks):
    def state(self, lab):
        return [lab.program(), lab.log(), len(lab)]

    def test_against_the_model(self):
        for seed in range(60):
            chosen = random.Random(700 + seed)
            program = chosen_program(chosen, (2, 1), facts=chosen_facts(chosen, False), pools=(3,))
            lab, model = Lab(program), Model(program)
            for _ in range(6):
                self.block(chosen, lab, model, 0)
            self.assertEqual(self.state(lab), model.state())
            self.refused(NoTrial, {}, lab.keep)

    def block(self, chosen, lab, model, depth):
        for _ in range(chosen.randrange(1, 6)):
            way = chosen.choice(["change"] * 5 + ["undo", "undo", "keep", "trial", "trial"])
            if way == "trial" and depth < 5:
                model.begin()
                leaves = chosen.randrange(3) == 0
                try:
                    with lab.trial() as held:
                        self.assertIs(held, lab)
                        self.assertEqual(len(lab), 0)
                        self.block(chosen, lab, model, depth + 1)
                        if leaves:
                            raise Away()
                except Away:
                    self.assertTrue(leaves)
                model.end()
            elif way in ("undo", "keep"):
                self.both(getattr(lab, way), getattr(model, way))
            else:
                self.change(lab, model, chosen_row(chosen, lab.program()))
            self.assertEqual(self.state(lab), model.state())

    def both(self, call, other):
        try:
            other()
        except StateError as error:
            self.refused(type(error), {}, call)
        else:
            self.assertIsNone(call())

    def change(self, lab, model, row):
        try:
            model.change(row)
        except (MapError, IndexError):
            self.assertRaises(MapError, lab.change_by, row)
        else:
            lab.change_by(row)

    def test_a_trial_goes_back(self):
        lab = Lab(PROGRAM)
        lab.begin_at("n")
        before = self.state(lab)
        with lab.trial() as held:
            self.assertIs(held, lab)
            self.assertEqual([len(lab), lab.log(), str(lab.program().first)], [0, [], "n"])
            self.refused(NothingToUndo, {}, lab.undo)
            lab[0] = []
            lab.put(1, 1, ("cut", 2))
            self.assertEqual([len(lab), lab.log()[0]], [2, ("hand", 0, ())])
            lab.undo()
            self.assertEqual([len(lab), lab[0]], [1, []])
        self.assertEqual(self.state(lab), before)
        lab.undo()
        self.assertEqual(lab.program(), PROGRAM)

    def test_an_exception_leaves_the_block(self):
        lab = Lab(PROGRAM)
        with self.assertRaises(Away):
            with lab.trial():
                lab[0] = []
                raise Away()
        self.assertEqual(self.state(lab), [PROGRAM, [], 0])
        with self.assertRaises(InvalidInteger):
            with lab.trial():
                with lab.trial():
                    lab[0] = []
                    lab.keep()
                    lab[1] = []
                    lab.take_out(0, 0)
        self.assertEqual(self.state(lab), [PROGRAM, [], 0])
        self.refused(NoTrial, {}, lab.keep)

    def test_keep(self):
        lab = Lab(PROGRAM)
        self.refused(NoTrial, {}, lab.keep)
        lab.begin_at("n")
        with lab.trial():
            lab[0] = []
            lab[1] = []
            self.assertIsNone(lab.keep())
            self.assertEqual([len(lab), lab.log(), lab[0]], [0, [], []])
            self.refused(NothingToUndo, {}, lab.undo)
            lab.begin_at(3)
            self.assertEqual(lab.log(), [("begin_at", Place(shift=3))])
        self.assertEqual([len(lab), lab.log()[0], str(lab.program().first)], [3, ("begin_at", N), "n"])
        lab.undo()
        self.assertEqual([lab[0], lab[1]], [[], PROGRAM.hands()[1]])

    def test_keep_in_trials_in_trials(self):
        lab = Lab(PROGRAM)
        with lab.trial():
            lab.begin_at(1)
            with lab.trial():
                lab.begin_at(2)
                lab.keep()
                lab.keep()
                lab.begin_at(3)
            self.assertEqual([len(lab), str(lab.program().first)], [2, "2"])
            lab.undo()
            self.assertEqual([len(lab), str(lab.program().first)], [1, "1"])
            with lab.trial():
                lab.begin_at("n")
                lab.keep()
            lab.keep()
        self.assertEqual([row[1] for row in lab.log()], [Place(shift=1), N])

    def test_eight_trials_deep(self):
        lab, rows = Lab(PROGRAM), [("begin_at", 0)]
        for _ in range(7):
            rows = [("kept", rows), ("begin_at", 1)]
        lab.change_by(("kept", rows))
        self.assertEqual([len(lab), str(lab.program().first)], [8, "1"])
        lab.change_by(("trial", rows))
        self.assertEqual(len(lab), 8)

    def test_change_by_each_form(self):
        lab = Lab(PROGRAM)
        for row in [
            ("hand", 0, [("look", "n"), ("cut", 2)]), ("put", 1, 0, ("test", 2)), ("take_out", 0, 1),
            ("exchange", 1, 0, 1, [("read", "n")]), ("begin_at", "n-1"), ("assume", ("page", "n")), ("forget", 0),
        ]:
            wanted = after(lab.program(), row)
            self.assertIsNone(lab.change_by(row=row))
            self.assertEqual([lab.program(), lab.log()[-1]], [wanted, told(row)])
        state = self.state(lab)
        self.assertIsNone(lab.change_by(("trial", [("take_out", 0, 0)])))
        self.assertEqual(self.state(lab), state)
        self.assertIsNone(lab.change_by(("kept", (("take_out", 0, 0), ("trial", [("hand", 1, [])]), ("begin_at", 0)))))
        self.assertEqual(lab.log()[7:], [("take_out", 0, 0), ("begin_at", Place())])
        self.assertIsNone(lab.change_by(("kept", [])))
        self.assertEqual(len(lab), 9)

    def test_rows_that_cannot_be_made(self):
        lab = Lab(PROGRAM)
        lab.begin_at("n")
        state = self.state(lab)
        for bad, kind in [
            (("take_out", 0, 7), InvalidInteger), (("hand", 0, 3), InvalidHand), (("nothing",), InvalidCommand),
            (("put", 0, 0, ("cut", 9)), InvalidStep), (None, InvalidCommand), (("begin_at", 9), InvalidPlace),
            (("assume", 1), InvalidFact), (("trial", 1), InvalidCommand), (("kept", "n"), InvalidCommand),
            (("kept", [("forget", 0)]), InvalidInteger),
        ]:
            rows = [("begin_at", 0), ("kept", [("begin_at", 1)]), bad, ("never", "looked at")]
            self.assertRaises(kind, lab.change_by, ("trial", rows))
            self.assertRaises(kind, lab.change_by, ("kept", rows))
            self.assertRaises(kind, lab.change_by, ("kept", [("trial", rows)]))
            self.assertRaises(kind, lab.tried, rows)
            self.assertRaises(kind, lab.change_by, bad)
            self.assertEqual(self.state(lab), state)
            self.refused(NoTrial, {}, lab.keep)

    def test_wrong_commands(self):
        lab = Lab(PROGRAM)
        wrong = any_values() + [
            ("hand", 0), ("hand", 0, [], []), ("put", 0, 0), ("take_out", 0), ("take_out", 0, 0, 0), ("undo",),
            ("exchange", 0, 0, 0), ("begin_at",), ("assume",), ("forget",), ("forget", 0, 0), ("trial",), ("kept",),
            ("trial", [], []), ["begin_at", 0], ("keep",), ("Hand", 0, []), (("hand",), 0, []), ("trial", None),
            ("kept", {}), ("trial", "n"), (None, 0), ("log",), ("program",), (["hand"], 0, []), ({}, 0),
        ]
        for value in wrong:
            self.refused(InvalidCommand, {"value": value}, lab.change_by, value)
            self.refused(InvalidCommand, {"value": value}, lab.change_by, ("kept", [("begin_at", 0), value]))
            self.refused(InvalidCommand, {"value": value}, lab.tried, [("begin_at", 0), value])
        for value in [value for value in any_values() if not isinstance(value, (list, tuple))]:
            self.refused(InvalidCommand, {"value": value}, lab.tried, value)
        self.assertEqual(self.state(lab), [PROGRAM, [], 0])

    def test_tried(self):
        lab = Lab(PROGRAM)
        lab.begin_at("n")
        state, rows = self.state(lab), [("hand", 0, []), ("kept", [("begin_at", 0)]), ("put", 0, 0, ("cut", "n"))]
        found = lab.tried(rows=rows)
        self.assertEqual(found, Program([[("cut", "n")], [("look", "n")]], first=0))
        self.assertEqual([lab.tried(tuple(rows)), lab.tried([]), self.state(lab)], [found, state[0], state])
        self.assertEqual(rows, [("hand", 0, []), ("kept", [("begin_at", 0)]), ("put", 0, 0, ("cut", "n"))])

    def test_what_is_passed_may_change(self):
        lab, steps = Lab(PROGRAM), [("cut", 0)]
        row = ("hand", 0, steps)
        lab.change_by(row)
        steps.append(("cut", 1))
        self.assertEqual([lab[0], lab.log()], [[("cut", Place())], [("hand", 0, (("cut", Place()),))]])
