"""[131] to [133]: programs as text."""

import random

from mapsizes.errors import (
    InvalidFacts, InvalidHand, InvalidLine, InvalidProgram, InvalidStep, InvalidText,
)
from mapsizes.facts import Facts
from mapsizes.places import Place
from mapsizes.programs import Program
from mapsizes.texts import program_text, read_program, read_step, step_text
from tests.helper import Checks, any_values, chosen_facts, chosen_program, with_texts

N = Place("n")
LINES = ["first n+1", "page 7", "fact at_most 1 n", "fact page n-2", "hand", "cut 1", "hand", "test n", "look n"]
STEPS = [
    (("cut", 0), "cut 0"), (("write", N + 1, "n+3", "x"), "write n+1 n+3 x"), (("read", "abcdef-3"), "read abcdef-3"),
    (("look", Place(shift=3)), "look 3"), (("store", "n", "abcdef"), "store n abcdef"), (("test", "2"), "test 2"),
    (("sync", "n", 3), "sync n 3"), (("lock", "a"), "lock a"), (("unlock", "old"), "unlock old"),
]


class TestSteps(Checks):
    def test_each_form(self):
        for step, text in STEPS:
            self.assertEqual(step_text(step), text)
            self.assertEqual(step_text(step=step), text)
            found = read_step(text=text)
            self.assertIs(type(found), tuple)
            self.assertEqual([with_texts(found), step_text(found)], [tuple(text.split(" ")), text])
            places = {"write": 2, "sync": 2, "lock": 0, "unlock": 0}.get(found[0], 1)
            self.assertEqual([isinstance(item, Place) for item in found[1:]],
                             [at < places for at in range(len(found) - 1)])
        self.assertEqual(read_step("sync n n+3"), ("sync", N, N + 3))

    def test_wrong_steps(self):
        for value in any_values() + [("cut",), ("cut", 4), ["cut", 0], ("store", "n", "old"), ("cut", "n+0"), "cut 0"]:
            self.refused(InvalidStep, {"value": value}, step_text, value)

    def test_wrong_texts(self):
        wrong = any_values() + [
            "", " ", "cut", "cut ", " cut 0", "cut  0", "cut 0 ", "cut 0 1", "Cut 0", "CUT 0", "cut N", "cut n+0", "cut n-4",
            "cut 4", "cut -1", "cut 00", "cut 01", "cut +1", "cut n +1", "cut n+01", "cut 0\n", "\ncut 0", "cut\n0",
            "cut 0\ncut 1", "write n n+1", "write n n+1 old", "write n n+1 x y", "store n X", "store n zero", "sync n",
            "lock", "lock a b", "lock abcdefg", "lock 1", "unlock A", "hand", "first n", "fact page n", "cut ''",
            ("cut", "0"), ["cut 0"], "cut 0,", "look n+1x", "cut abcdefg",
        ]
        for value in wrong:
            self.refused(InvalidText, {"value": value}, read_step, value)


class TestPrograms(Checks):
    def test_there_and_back(self):
        chosen = random.Random(71)
        for number in range(200):
            two = number % 2 == 0
            page = None if two else chosen.choice([None, 1, 2, 10, 31])
            counts = chosen.choice([(0,), (3,), (12,), (2, 0), (4, 4, 4), (0, 0, 0), (1, 12)])
            program = chosen_program(chosen, counts, two=two, page=page, facts=chosen_facts(chosen, two))
            text = program_text(program)
            self.assertEqual(text, self.plain_text(program))
            self.assertEqual(read_program(text), program)
            self.assertEqual(program_text(read_program(text)), text)
            lines = text.split("\n")
            steps = [step for hand in program.hands() for step in hand]
            told = [line for line in lines[lines.index("hand"):] if line != "hand"]
            self.assertEqual([read_step(line) for line in told], steps)
            self.assertEqual([step_text(step) for step in steps], told)

    def plain_text(self, program):
        text = "first " + str(program.first)
        text += "" if program.page is None else "\npage " + str(program.page)
        for word, *places in program.facts.rows():
            text += "\nfact " + word + "".join(" " + str(place) for place in places)
        for hand in program.hands():
            text += "\nhand" + "".join("\n" + " ".join(with_texts(step)) for step in hand)
        return text

    def test_examples_of_the_document(self):
        program = Program([[("cut", 1)], [("test", "n"), ("look", "n")]], first="n+1", facts=Facts(("at_most", 1, "n")))
        text = "first n+1\nfact at_most 1 n\nhand\ncut 1\nhand\ntest n\nlook n"
        self.assertEqual([program_text(program), read_program(text) == program], [text, True])
        self.refused(InvalidLine, {"index": 2}, read_program, "first n+1\nhand\nlook  n")
        self.assertEqual(read_program(text="\n".join(LINES)), Program(
            [[("cut", 1)], [("test", "n"), ("look", "n")]], first="n+1", page=7,
            facts=Facts(("at_most", 1, "n"), ("page", "n-2")),
        ))
        self.assertEqual(program_text(program=read_program("\n".join(LINES))).split("\n"), LINES)

    def test_wrong_programs_and_texts(self):
        for value in [value for value in any_values() if not isinstance(value, Program)]:
            self.refused(InvalidProgram, {"value": value}, program_text, value)
        for value in [value for value in any_values() if not isinstance(value, str)] + [LINES]:
            self.refused(InvalidText, {"value": value}, read_program, value)

    def refused_at(self, index, lines):
        self.refused(InvalidLine, {"index": index}, read_program, "\n".join(lines))

    def test_lines_that_cannot_stand(self):
        self.refused_at(0, [""])
        self.refused_at(0, ["", ""])
        self.refused_at(1, ["first n", ""])
        self.refused_at(len(LINES), [*LINES, ""])
        wrong = [
            "", " ", "first", "first n+0", "first n m", "first  n", "first n ", "First n", "first 4", "page", "page 0",
            "page 32", "page 07", "page 7 ", "page +7", "page -1", "page x", "page 7 7", "Page 7", "page 100",
            "page " + "9" * 60, "fact", "fact page", "fact page n n", "fact page n+0", "fact page 4", "fact Page n",
            "fact at_most n", "fact at_most n m k", "fact at_most n  m", "fact n m", "facts page n", "hand ", " hand",
            "hand 0", "Hand", "hands", "first page n", "hand page n", "page at_most n m",
            "step at_most n m", " page n", "cut", "cut 0 ", "cut  0", "cut n+0", "cut 01", "lock A", "text", "done",
        ]
        for line in wrong:
            for index in range(len(LINES) + 1):
                self.refused_at(index, LINES[:index] + [line] + LINES[index:])

    def test_lines_at_a_wrong_place(self):
        for index in range(1, len(LINES) + 1):
            self.refused_at(index, LINES[:index] + ["first n"] + LINES[index:])
        for line in LINES[1:]:
            self.refused_at(0, [line] + LINES)
            self.refused_at(0, [line])
        for index in range(2, len(LINES) + 1):
            self.refused_at(index, LINES[:index] + ["page 7"] + LINES[index:])
        self.refused_at(2, ["first n", "fact page n", "page 7", "hand"])
        for index in range(5, len(LINES) + 1):
            self.refused_at(index, LINES[:index] + ["fact page n"] + LINES[index:])
        for index in range(1, 5):
            self.refused_at(index, LINES[:index] + ["cut 1"] + LINES[index:])
        self.refused_at(1, ["first n", "cut 0", "page 40", ""])

    def test_page_sizes(self):
        for page in range(1, 32):
            self.assertEqual(read_program("first 0\npage " + str(page) + "\nhand").page, page)

    def test_facts_and_programs_that_cannot_be_made(self):
        def caught(kind, text):
            with self.assertRaises(kind) as found:
                read_program(text)
            self.assertIs(type(found.exception), kind)
            return type(found.exception.value)
        self.assertIs(caught(InvalidFacts, "first n\nfact at_most a b\nfact page c"), tuple)
        self.assertIs(caught(InvalidFacts, "first n\nfact at_most a b\nfact page c\nhand\nlock a\nlock a"), tuple)
        self.assertIs(caught(InvalidProgram, "first n"), list)
        self.assertIs(caught(InvalidProgram, "first n\npage 2\nfact page n"), list)
        self.assertIs(caught(InvalidProgram, "first n" + "\nhand" * 4), list)
        self.assertIs(caught(InvalidProgram, "first n\nhand\nsync m k"), list)
        self.assertIs(caught(InvalidProgram, "first n\npage 2\nhand\ncut m"), list)
        self.assertIs(caught(InvalidHand, "first n\nhand" + "\ncut 0" * 13), list)
        self.assertIs(caught(InvalidHand, "first n\nhand\nlock a\nlock a"), list)
        self.assertIs(caught(InvalidHand, "first n\nhand\nhand\nunlock a"), list)
        self.assertEqual(len(read_program("first n\nhand" + "\ncut 0" * 12)), 12)
        self.assertEqual(len(read_program("first n" + "\nhand" * 3).hands()), 3)

    def test_a_long_text(self):
        rows = ["fact at_most abcdef-1 abcdef+2"] * 16
        text = "\n".join(["first abcdef-3", *rows, "hand", *["write abcdef-2 abcdef+2 abcdef"] * 12])
        self.assertEqual(program_text(read_program(text)), text)
