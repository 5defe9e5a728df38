"""A desk: programs made and asked by lines of words."""

from mapsizes.errors import InvalidCommand, InvalidInteger, InvalidLine, InvalidText, MapError, NoProgram, StateError
from mapsizes.facts import Facts, is_fact
from mapsizes.likeness import alike, with_page
from mapsizes.machine import run
from mapsizes.outcomes import answers, can, cases_of
from mapsizes.places import is_list, is_name, is_place
from mapsizes.programs import Program
from mapsizes.settings import MOST_UNKNOWNS, Setting
from mapsizes.steps import is_step
from mapsizes.texts import program_text

_DIGITS = "0123456789"
_MOST_DIGITS = 60
_LETTERS = "abcdefghijklmnopqrstuvwxyz"


def _is_number(word):
    """Tells whether a word is an integer from 0 on as commands write it."""
    if not 1 <= len(word) <= _MOST_DIGITS or (word[0] == "0" and word != "0"):
        return False
    return all([letter in _DIGITS for letter in word])


def _is_page(word):
    return _is_number(word) and word != "0"


def _is_answer(word):
    return word != "" and all([letter in _LETTERS for letter in word])


def _count_of_sizes(items):
    """Returns how many words with a size stand ahead of the others."""
    count = 0
    while count < len(items) and "=" in items[count]:
        count += 1
    return count


def _is_size(word):
    name, _, size = word.partition("=")
    return is_name(name) and _is_number(size)


def _sizes(items):
    """Returns the dict of the sizes of words as NAME=SIZE."""
    parts = [item.partition("=") for item in items]
    return {name: int(size) for name, _, size in parts}


def _is_run(items):
    count = _count_of_sizes(items)
    sizes = items[:count]
    if count > MOST_UNKNOWNS or count == len(items) or not all([_is_size(word) for word in sizes]):
        return False
    return len(_sizes(sizes)) == count and _is_page(items[count]) and all([_is_number(word) for word in items[count:]])


def _triples(items):
    return [tuple(items[start:start + 3]) for start in range(0, len(items), 3)]


def _is_pattern_text(items):
    if items == [] or len(items) % 3 != 0:
        return False
    return all([_is_number(hand) and _is_number(step) and _is_answer(told) for hand, step, told in _triples(items)])


def _is_command(words):
    """Tells whether a list of words is a command."""
    word, items = words[0], words[1:]
    if word in ("hand", "text", "cases", "hold", "alike"):
        return items == []
    if word == "first":
        return len(items) == 1 and is_place(items[0])
    if word == "step":
        return items != [] and _is_number(items[0]) and is_step(tuple(items[1:]))
    if word == "drop":
        return len(items) == 1 and _is_number(items[0])
    if word == "fact":
        return is_fact(tuple(items))
    if word == "page":
        return len(items) == 1 and (items[0] == "large" or _is_page(items[0]))
    if word == "answers":
        return len(items) == 2 and all([_is_number(item) for item in items])
    return (word == "run" and _is_run(items)) or (word == "can" and _is_pattern_text(items))


def _begun(program, items):
    return Program([[]], first=items[0])


def _with_hand_more(program, items):
    return Program([*program.hands(), []], first=program.first, facts=program.facts, page=program.page)


def _steps_of(program, hand):
    hands = program.hands()
    if hand >= len(hands):
        raise InvalidInteger(hand)
    return hands[hand]


def _with_step(program, items):
    hand = int(items[0])
    return program.with_hand(hand, [*_steps_of(program, hand), tuple(items[1:])])


def _without_step(program, items):
    hand = int(items[0])
    steps = _steps_of(program, hand)
    if steps == []:
        raise InvalidInteger(hand)
    return program.with_hand(hand, steps[:-1])


def _with_fact(program, items):
    facts = program.facts & Facts(tuple(items))
    return Program(program.hands(), first=program.first, facts=facts, page=program.page)


def _paged(program, items):
    return with_page(program, None if items[0] == "large" else int(items[0]))


def _text(program, items):
    return program_text(program)


def _count_of_cases(program, items):
    return str(len(cases_of(program)))


def _outcome(program, items):
    count = _count_of_sizes(items)
    setting = Setting(_sizes(items[:count]), page=int(items[count]))
    found = run(program, setting, [int(hand) for hand in items[count + 1:]]).outcome()
    return " / ".join([" ".join(told) if told != () else "-" for told in found])


def _answers(program, items):
    hand, step = items
    found = answers(program, int(hand), int(step))
    return " ".join(found) if found != [] else "nothing"


def _setting_text(setting):
    sizes = setting.sizes()
    words = [f"{name}={sizes[name]}" for name in sorted(list(sizes))]
    return " ".join([*words, str(setting.page)])


def _can(program, items):
    found = can(program, [(int(hand), int(step), told) for hand, step, told in _triples(items)])
    if found is None:
        return "never"
    setting, weaving = found
    return " ".join(["run", _setting_text(setting)] + [str(hand) for hand in weaving])


def _likeness(held, program):
    found = alike(held, program)
    if found is None:
        return "alike"
    setting, _, index = found
    return " ".join(["held" if index == 0 else "now", _setting_text(setting)])


_CHANGES = {
    "first": _begun, "hand": _with_hand_more, "step": _with_step, "drop": _without_step, "fact": _with_fact,
    "page": _paged,
}
_QUESTIONS = {"text": _text, "cases": _count_of_cases, "run": _outcome, "answers": _answers, "can": _can}


class Desk:
    """Makes a program by commands, and answers what they ask of it."""

    def __init__(self):
        self._program = None
        self._held = None
        self._lines = []

    def execute(self, line):
        """Executes a command and returns its answer."""
        words = line.split(" ") if isinstance(line, str) else [""]
        if not _is_command(words):
            raise InvalidCommand(line)
        word = words[0]
        if word != "first" and (self._program is None or (word == "alike" and self._held is None)):
            raise NoProgram()
        told = self._answer(word, words[1:])
        self._lines = [line] if word == "first" else [*self._lines, line]
        return told

    def execute_all(self, lines):
        """Executes the commands of a list and returns their answers; if one raises, none of them was executed."""
        if not is_list(lines):
            raise InvalidText(lines)
        before = (self._program, self._held, self._lines)
        told = []
        for index, line in enumerate(lines):
            try:
                told.append(self.execute(line))
            except (MapError, StateError) as error:
                self._program, self._held, self._lines = before
                raise InvalidLine(index) from error
        return told

    def program(self):
        """Returns the program."""
        if self._program is None:
            raise NoProgram()
        return self._program

    def log(self):
        """Returns the lines that were executed since the last `first`."""
        return list(self._lines)

    def _answer(self, word, items):
        if word == "hold":
            self._held = self._program
            return "done"
        if word == "alike":
            return _likeness(self._held, self._program)
        if word in _CHANGES:
            change = _CHANGES[word]
            self._program = change(self._program, items)
            return "done"
        question = _QUESTIONS[word]
        return question(self._program, items)
