"""[141] and [142]: a desk."""

import random

from mapsizes.desk import Desk
from mapsizes.errors import (
    InvalidCommand, InvalidFacts, InvalidHand, InvalidInteger, InvalidLine, InvalidPattern, InvalidProgram,
    InvalidSetting, InvalidText, InvalidWeaving, MapError, NoProgram, StateError,
)
from mapsizes.facts import Facts
from mapsizes.likeness import alike, with_page
from mapsizes.machine import run
from mapsizes.outcomes import answers, can, cases_of, outcomes
from mapsizes.programs import Program
from mapsizes.settings import Setting
from mapsizes.texts import program_text, step_text
from tests.helper import SIXTY_DIGITS, Checks, any_values, chosen_facts, chosen_program, settings_around

BEGUN = ["first n+1", "step 0 cut 1", "hand", "step 1 test n", "step 1 look n"]
PROGRAM = Program([[("cut", 1)], [("test", "n"), ("look", "n")]], first="n+1")


def desk_with(*lines):
    desk = Desk()
    desk.execute_all([*BEGUN, *lines])
    return desk


def lines_of(program):
    """Commands that lay a program on a desk."""
    lines = ["first " + str(program.first)]
    for index, hand in enumerate(program.hands()):
        lines += ["hand"] * (index > 0) + ["step " + str(index) + " " + step_text(step) for step in hand]
    lines += ["fact " + " ".join(str(item) for item in row) for row in program.facts.rows()]
    return lines + (["page " + str(program.page)] if program.page else [])


def words_of(setting):
    sizes = setting.sizes()
    return " ".join([name + "=" + str(sizes[name]) for name in sorted(sizes)] + [str(setting.page)])


class TestCommands(Checks):
    def unchanged(self, desk, kind, fields, line):
        before = [desk.program(), desk.log()]
        self.refused(kind, fields, desk.execute, line)
        self.assertEqual([desk.program(), desk.log()], before)

    def raises(self, desk, kind, wanted, line):
        """The command raises this class with an equal field."""
        before = [desk.program(), desk.log()]
        with self.assertRaises(kind) as caught:
            desk.execute(line)
        self.assertIs(type(caught.exception), kind)
        if wanted is not None:
            self.assertEqual([caught.exception.value, type(caught.exception.value)], [wanted, type(wanted)])
        self.assertEqual([desk.program(), desk.log()], before)

    def test_examples_of_the_document(self):
        desk = Desk()
        self.assertEqual(desk.execute_all(BEGUN), ["done"] * 5)
        self.assertEqual(desk.execute("run n=40 64 1 0 1"), "done / more zero")
        self.assertEqual(desk.execute(line="answers 1 1"), "fails none old zero")
        self.assertEqual(desk.execute("can 1 0 end 1 1 old"), "never")
        self.assertEqual(desk.execute("hold"), "done")
        self.raises(desk, InvalidInteger, 32, "page 32")

    def test_making_a_program(self):
        desk = Desk()
        made = Program([[]], first="n-3")
        for line, wanted in [
            ("first n-3", made),
            ("step 0 write n 3 x", made.with_hand(0, [("write", "n", 3, "x")])),
            ("hand", Program([[("write", "n", 3, "x")], []], first="n-3")),
            ("step 1 lock a", Program([[("write", "n", 3, "x")], [("lock", "a")]], first="n-3")),
            ("drop 0", Program([[], [("lock", "a")]], first="n-3")),
            ("fact at_most 1 n", Program([[], [("lock", "a")]], first="n-3", facts=Facts(("at_most", 1, "n")))),
            ("fact page n", Program([[], [("lock", "a")]], first="n-3", facts=Facts(("at_most", 1, "n"), ("page", "n")))),
            ("page 31", Program([[], [("lock", "a")]], first="n-3", page=31,
                                facts=Facts(("at_most", 1, "n"), ("page", "n")))),
            ("page large", Program([[], [("lock", "a")]], first="n-3",
                                   facts=Facts(("at_most", 1, "n"), ("page", "n")))),
            ("step 1 unlock a", Program([[], [("lock", "a"), ("unlock", "a")]], first="n-3",
                                        facts=Facts(("at_most", 1, "n"), ("page", "n")))),
            ("first 3", Program([[]], first=3)),
        ]:
            self.assertEqual(desk.execute(line), "done")
            self.assertEqual(desk.program(), wanted, line)
        self.assertEqual(desk.log(), ["first 3"])

    def test_without_a_program(self):
        desk = Desk()
        self.refused(NoProgram, {}, desk.program)
        self.assertEqual(desk.log(), [])
        for line in [
            "hand", "step 0 cut 0", "drop 0", "fact page n", "page 3", "page large", "text", "cases", "run 32", "hold",
            "answers 0 0", "can 0 0 done", "alike", "page 32", "step 9 cut 0",
        ]:
            self.refused(NoProgram, {}, desk.execute, line)
            with self.assertRaises(InvalidLine) as caught:
                desk.execute_all([line])
            self.assertIs(type(caught.exception.__cause__), NoProgram)
        value = "hands"
        self.refused(InvalidCommand, {"value": value}, desk.execute, value)
        self.assertEqual(desk.log(), [])
        desk.execute("first 0")
        self.refused(NoProgram, {}, desk.execute, "alike")
        self.assertEqual([desk.log(), desk.program()], [["first 0"], Program([[]], first=0)])

    def test_what_is_no_command(self):
        sixty_one = "1" + "0" * 60
        wrong = any_values() + [
            " ", "  ", "hand ", " hand", "hand 0", "Hand", "hands", "first", "first ", "first  n", "first n m",
            "first n+0", "first 4", "first n ", "First n", "step", "step 0", "step 0 ", "step 0  cut 0",
            "step 0 cut  0", "step 00 cut 0", "step 01 cut 0", "step -1 cut 0", "step x cut 0", "step 0 cut",
            "step 0 cut 4", "step 0 cut n+0", "step 0 Cut 0", "step 0 cut 0 ", "step 0 store n old", "step cut 0",
            "step +0 cut 0", "step " + sixty_one + " cut 0", "drop", "drop x", "drop 00", "drop 0 0", "drop -1",
            "fact", "fact page", "fact page n n", "fact page 4", "fact at_most n", "fact at_most n m k", "fact n",
            "fact at_most n n+4", "page", "page 0", "page 07", "page -1", "page Large", "page large 1", "page x",
            "page 3 3", "page ", "page " + sixty_one, "text 1", "cases 1", "run", "run n=3", "run n=3 ", "run n=3 0",
            "run n=3 07", "run 32 ", "run 32 x", "run 32 -1", "run 32 00", "run n=3 n=3 32", "run n=3 n=4 32",
            "run n=3 m=3 k=3 32", "run n=03 32", "run N=3 32", "run n= 32", "run =3 32", "run n 32", "run n=3=3 32",
            "run n==3 32", "run abcdefg=3 32", "run n=-1 32", "run n=x 32", "run 32 n=3", "run n=3 32 m=3",
            "run n=" + sixty_one + " 32", "run 32 1 " + sixty_one, "run  32", "run n+1=3 32", "answers", "answers 1",
            "answers 1 1 1", "answers 1 x", "answers 01 1", "answers 1 01", "answers x 1", "can", "can 1", "can 1 1",
            "can 1 1 Old", "can 1 1 old 1", "can 1 1 old 1 1", "can 1 1 x1", "can 1 old 1", "can 01 1 old",
            "can 1 01 old", "can x 1 old", "can 1 1 old ", "can 1 1  old", "hold 1", "alike 1", "alike now", "done",
            "log", "program", "text\n", "hand\nhand", "cut 0", "lock a", ("hand",), ["hand"],
            "can 1 1 ", "can 1 1 old 1 x old", "can x 1 old 1 1 old", "ran n=3 32", "walk 32", "32", "cane 1 1 old", "1 1 old",
        ]
        signs = [chr(code) for code in range(32, 127)]
        wrong += ["drop " + sign for sign in signs if not sign.isdigit()]
        wrong += ["drop 1" + sign for sign in signs if not sign.isdigit()]
        wrong += ["can 0 0 " + sign for sign in signs if not sign.islower()]
        wrong += ["can 0 0 a" + sign for sign in signs if not sign.islower()]
        for desk in (Desk(), desk_with("hold")):
            log = desk.log()
            for value in wrong:
                self.refused(InvalidCommand, {"value": value}, desk.execute, value)
            self.assertEqual(desk.log(), log)

    def test_commands_that_cannot_be_done(self):
        desk = desk_with("hold")
        for line, kind, wanted in [
            ("step 2 cut 0", InvalidInteger, 2), ("drop 2", InvalidInteger, 2),
            ("step " + str(SIXTY_DIGITS) + " cut 0", InvalidInteger, SIXTY_DIGITS),
            ("drop " + str(SIXTY_DIGITS), InvalidInteger, SIXTY_DIGITS), ("page 32", InvalidInteger, 32),
            ("page " + str(SIXTY_DIGITS), InvalidInteger, SIXTY_DIGITS), ("step 0 unlock a", InvalidHand, None),
            ("answers 2 0", InvalidInteger, 2), ("answers 1 2", InvalidInteger, 2), ("answers 7 8", InvalidInteger, 7),
            ("can 2 0 old", InvalidPattern, [(2, 0, "old")]), ("can 1 1 x 1 2 y", InvalidPattern, [(1, 1, "x"), (1, 2, "y")]),
            ("run 32", InvalidSetting, Setting({})), ("run n=3 31", InvalidSetting, Setting({"n": 3}, page=31)),
            ("run m=3 32 0", InvalidSetting, Setting({"m": 3})), ("run n=3 32 0 0", InvalidWeaving, [0, 0]),
            ("run n=3 32 2", InvalidWeaving, [2]), ("run m=1 n=3 32 0 7", InvalidWeaving, [0, 7]),
        ]:
            self.raises(desk, kind, wanted, line)
        desk.execute_all(["hand", "step 2 lock a", "fact page m"])
        for line, kind, wanted in [
            ("hand", InvalidProgram, None), ("step 2 lock a", InvalidHand, None), ("page 3", InvalidProgram, None),
            ("page 33", InvalidInteger, 33), ("fact page k", InvalidFacts, None), ("step 0 cut k", InvalidProgram, None),
        ]:
            if line == "fact page k":
                desk.execute("fact page n")
            self.raises(desk, kind, wanted, line)
        # The facts have one unknown, the places another one, so the third one makes the program too large.
        other = desk_with("fact page m")
        self.raises(other, InvalidProgram, None, "fact page k")
        full = desk_with(*["step 0 cut 1"] * 11)
        self.raises(full, InvalidHand, None, "step 0 cut 1")
        full.execute_all(["drop 0"] * 12)
        self.raises(full, InvalidInteger, 0, "drop 0")
        paged = desk_with("page 5")
        self.raises(paged, InvalidProgram, None, "fact page m")
        self.raises(paged, InvalidProgram, None, "step 0 cut m")

    def test_runs(self):
        desk = desk_with()
        for line, wanted in [
            ("run n=40 64", "none / none none"), ("run n=40 64 0", "done / none none"),
            ("run n=40 32 1 0 1", "done / more fails"), ("run n=40 64 0 1", "done / end none"),
            ("run n=40 m=2 64 1", "none / more none"), ("run m=0 n=40 64 1", "none / more none"),
            ("run n=" + "9" * 60 + " " + "9" * 60 + " 0 1", "done / end none"), ("run n=0 32 0 1 1", "done / more old"),
        ]:
            self.assertEqual(desk.execute(line), wanted)
        desk.execute_all(["first 2", "hand", "hand", "step 1 read 1"])
        self.assertEqual([desk.execute("run 40"), desk.execute("run 32 1")], ["- / none / -", "- / old / -"])
        desk.execute("page 1")
        self.assertEqual(desk.execute("run 1 1"), "- / old / -")
        self.raises(desk, InvalidSetting, Setting({}, page=32), "run 32 1")

    def test_questions(self):
        desk = desk_with()
        self.assertEqual(desk.execute("text"), program_text(PROGRAM))
        self.assertEqual(desk.execute("cases"), str(len(cases_of(PROGRAM))))
        self.assertEqual([desk.execute("answers 1 0"), desk.execute("answers 0 0")], ["end more", "done"])
        self.assertEqual(desk.execute("can 1 1 old 1 1 zero"), "never")
        words = desk.execute("can 1 0 more 1 1 fails").split(" ")
        self.assertEqual([words[0], words[2:]], ["run", ["32", "1", "0", "1"]])
        self.assertEqual(desk.execute(" ".join(words)), "done / more fails")
        desk.execute("fact at_most n n-1")
        self.assertEqual([desk.execute("answers 1 1"), desk.execute("cases"), desk.execute("can 0 0 done")],
                         ["nothing", "0", "never"])

    def test_against_the_functions(self):
        chosen = random.Random(81)
        for number in range(80):
            two = number % 2 == 0
            page = None if two else chosen.choice([None, 1, 3, 31])
            counts = chosen.choice([(2,), (2, 1), (0, 2), (1, 0, 1)])
            program = chosen_program(chosen, counts, two=two, page=page, facts=chosen_facts(chosen, two), pools=(2, 3))
            desk = Desk()
            lines = lines_of(program)
            self.assertEqual(desk.execute_all(lines), ["done"] * len(lines))
            self.assertEqual([desk.program(), desk.log()], [program, lines])
            self.assertEqual(desk.execute("text"), program_text(program))
            self.assertEqual(desk.execute("cases"), str(len(cases_of(program))))
            self.asked(chosen, desk, program)
            for setting in settings_around(program, chosen, 3):
                self.ran(chosen, desk, program, setting)
            self.likened(chosen, desk, program)

    def asked(self, chosen, desk, program):
        found = [outcome for outcome, _, _ in outcomes(program)]
        for hand, steps in enumerate(program.hands()):
            for step in range(len(steps)):
                told = " ".join(answers(program, hand, step)) or "nothing"
                self.assertEqual(desk.execute("answers " + str(hand) + " " + str(step)), told)
                word = chosen.choice(found)[hand][step] if found and chosen.randrange(3) else "other"
                pattern = [(hand, step, word)] * chosen.choice([1, 2])
                told = desk.execute("can" + "".join(" " + str(item) for row in pattern for item in row))
                run_of = can(program, pattern)
                if run_of is None:
                    self.assertEqual(told, "never")
                else:
                    weaving = "".join(" " + str(hand) for hand in run_of[1])
                    self.assertEqual(told, "run " + words_of(run_of[0]) + weaving)
                    self.assertEqual(desk.execute(told).split(" / ")[hand].split(" ")[step], word)

    def ran(self, chosen, desk, program, setting):
        weaving = [chosen.randrange(len(program.hands())) for _ in range(chosen.randrange(4))]
        line = "run " + words_of(setting) + "".join(" " + str(hand) for hand in weaving)
        try:
            outcome = run(program, setting, weaving).outcome()
        except InvalidWeaving:
            self.raises(desk, InvalidWeaving, weaving, line)
        else:
            self.assertEqual(desk.execute(line), " / ".join(" ".join(told) or "-" for told in outcome))

    def likened(self, chosen, desk, program):
        desk.execute("hold")
        self.assertEqual(desk.execute("alike"), "alike")
        line = chosen.choice(["hand", "drop 0", "step 0 look n", "step 0 cut 0"])
        try:
            desk.execute(line)
        except (MapError, StateError):
            return
        try:
            found = alike(program, desk.program())
        except InvalidProgram:
            self.raises(desk, InvalidProgram, desk.program(), "alike")
        else:
            wanted = "alike" if found is None else ["held", "now"][found[2]] + " " + words_of(found[0])
            self.assertEqual(desk.execute("alike"), wanted)

    def test_held_programs(self):
        desk = desk_with("hold")
        self.assertEqual(desk.execute("alike"), "alike")
        desk.execute_all(["first n+1", "step 0 cut 1", "hand", "step 1 test n"])
        self.assertEqual(desk.execute("alike").split(" ")[0] in ("held", "now"), True)
        desk.execute("step 1 look n")
        self.assertEqual(desk.execute("alike"), "alike")
        desk.execute_all(["drop 1", "step 1 read n"])
        words = desk.execute("alike").split(" ")
        self.assertEqual([words[0], words[1][:2], words[2:]], ["held", "n=", ["32"]])
        desk.execute("page 7")
        self.raises(desk, InvalidProgram, with_page(Program([[("cut", 1)], [("test", "n"), ("read", "n")]], first="n+1"),
                                                    7), "alike")
        desk.execute("hold")
        self.assertEqual(desk.execute("alike"), "alike")
        more = desk_with("drop 1", "drop 1", "drop 0", "step 0 cut n", "step 1 look n", "hold")
        more.execute_all(["drop 0", "step 0 cut 0"])
        self.assertIn(more.execute("alike").split(" ")[0], ["held", "now"])
        one = Desk()
        one.execute_all(["first n", "step 0 test 0", "hold", "drop 0", "step 0 test m"])
        words = one.execute("alike").split(" ")
        self.assertEqual([words[1][:2], words[2][:2], words[3:]], ["m=", "n=", ["32"]])

    def test_names_in_ascending_order(self):
        desk = Desk()
        desk.execute_all(["first n", "step 0 test k", "fact at_most k n"])
        words = desk.execute("can 0 0 more").split(" ")
        self.assertEqual([word.partition("=")[0] for word in words], ["run", "k", "n", "32", "0"])

    def test_which_one_has_an_outcome_alone(self):
        for held, now, word in [("0", "n", "held"), ("n", "0", "now")]:
            desk = Desk()
            desk.execute_all(["first n", "step 0 cut " + held, "hand", "step 1 cut n", "hand", "step 2 test 0", "hold"])
            desk.execute_all(["first n", "step 0 cut " + now, "hand", "step 1 cut n", "hand", "step 2 test 0"])
            told = desk.execute("alike").split(" ")
            self.assertEqual([told[0], told[1] == "n=0", told[2]], [word, False, "32"])


class TestLines(Checks):
    def test_execute_all(self):
        desk = Desk()
        self.assertEqual(desk.execute_all(lines=tuple(BEGUN)), ["done"] * 5)
        self.assertEqual(desk.execute_all(["cases", "hold", "alike"]), [str(len(cases_of(PROGRAM))), "done", "alike"])
        self.assertEqual(desk.log(), [*BEGUN, "cases", "hold", "alike"])
        self.assertEqual([desk.execute_all([]), desk.execute_all(())], [[], []])
        for value in [value for value in any_values() if not isinstance(value, (list, tuple))]:
            self.refused(InvalidText, {"value": value}, desk.execute_all, value)

    def test_commands_that_raise_amid_a_list(self):
        desk = desk_with("hold", "drop 1")
        log, program = desk.log(), desk.program()
        for bad, kind in [
            ("hands", InvalidCommand), (None, InvalidCommand), ("drop 5", InvalidInteger), ("page 99", InvalidInteger),
            ("run n=1 32 2", InvalidWeaving), ("run n=1 3", InvalidSetting), ("can 9 9 x", InvalidPattern),
            ("step 0 unlock a", InvalidHand), ("can 0 0 x y", InvalidCommand),
        ]:
            for ahead in [[], ["hold"], ["first 2", "hold", "hand"], ["step 1 read 0", "cases", "page large"]]:
                lines = [*ahead, bad, "first 0"]
                with self.assertRaises(InvalidLine) as caught:
                    desk.execute_all(lines)
                self.assertIs(type(caught.exception), InvalidLine)
                self.assertEqual([caught.exception.index, type(caught.exception.__cause__)], [len(ahead), kind])
                self.assertEqual([desk.program(), desk.log()], [program, log])
        desk.execute("step 1 look n")
        self.assertEqual(desk.execute("alike"), "alike")
        empty = Desk()
        with self.assertRaises(InvalidLine):
            empty.execute_all(["first n", "hold", "hand", "no"])
        self.refused(NoProgram, {}, empty.program)
        self.refused(NoProgram, {}, empty.execute, "hold")
        self.assertEqual(empty.log(), [])
        begun = Desk()
        begun.execute("first 0")
        with self.assertRaises(InvalidLine):
            begun.execute_all(["hold", "no"])
        self.refused(NoProgram, {}, begun.execute, "alike")

    def test_log(self):
        desk = desk_with()
        desk.execute("text")
        with self.assertRaises(InvalidInteger):
            desk.execute("page 40")
        self.assertEqual(desk.log(), [*BEGUN, "text"])
        desk.log().clear()
        found = desk.execute_all(["cases"])
        found.clear()
        self.assertEqual(desk.log(), [*BEGUN, "text", "cases"])
        twin = Desk()
        twin.execute_all(desk.log())
        self.assertEqual([twin.program(), twin.log()], [desk.program(), desk.log()])

    def test_lines_that_were_passed_stay(self):
        desk, lines = Desk(), list(BEGUN)
        desk.execute_all(lines)
        self.assertEqual(lines, BEGUN)
        lines.clear()
        self.assertEqual([desk.log(), desk.program()], [BEGUN, PROGRAM])
        self.assertNotEqual(desk, desk_with())
        self.assertIsInstance(repr(desk), str)
