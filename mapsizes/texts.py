"""Programs and steps as text."""

from mapsizes.errors import InvalidLine, InvalidStep, InvalidText
from mapsizes.facts import Facts, is_fact
from mapsizes.places import is_place
from mapsizes.programs import Program, check_program
from mapsizes.settings import LEAST_LARGE_PAGE
from mapsizes.steps import is_step, placed_step


def _line(row):
    """Returns the words of a tuple with one space between any two."""
    return " ".join([str(item) for item in row])


def step_text(step):
    """Returns a step as a line."""
    if not is_step(step):
        raise InvalidStep(step)
    return _line(placed_step(step))


def read_step(text):
    """Returns the step that is written so."""
    words = text.split(" ") if isinstance(text, str) else []
    if not is_step(tuple(words)):
        raise InvalidText(text)
    return placed_step(tuple(words))


def program_text(program):
    """Returns a program as lines."""
    check_program(program)
    lines = [_line(("first", program.first))]
    if program.page is not None:
        lines.append(_line(("page", program.page)))
    lines.extend([_line(("fact", *row)) for row in program.facts.rows()])
    for steps in program.hands():
        lines.extend(["hand", *[_line(step) for step in steps]])
    return "\n".join(lines)


def read_program(text):
    """Returns the program that is written so."""
    if not isinstance(text, str):
        raise InvalidText(text)
    rows = [tuple(line.split(" ")) for line in text.split("\n")]
    words = []
    for index, row in enumerate(rows):
        word = _word_of(row)
        if not _can_stand(word, words):
            raise InvalidLine(index)
        words.append(word)
    told = [row[1:] for row, word in zip(rows, words) if word == "fact"]
    facts = Facts(*told)
    page = int(rows[1][1]) if words[1:2] == ["page"] else None
    return Program(_hands_of(rows, words), first=rows[0][1], facts=facts, page=page)


def _word_of(row):
    """Returns what a line is by its words, `step` for each step, an empty text if it is nothing."""
    if is_step(row):
        return "step"
    if row == ("hand",) or (row[0] == "fact" and is_fact(row[1:])):
        return row[0]
    if len(row) != 2:
        return ""
    if row[0] == "first":
        return "first" if is_place(row[1]) else ""
    return "page" if row[0] == "page" and row[1] in _page_texts() else ""


def _page_texts():
    return [str(page) for page in range(1, LEAST_LARGE_PAGE)]


def _can_stand(word, ahead):
    """Tells whether a line of this word can stand behind lines of these words."""
    if ahead == []:
        return word == "first"
    if word == "page":
        return ahead == ["first"]
    if word == "fact":
        return "hand" not in ahead
    return word == "hand" or (word == "step" and "hand" in ahead)


def _hands_of(rows, words):
    """Returns the lists of the steps of the hands."""
    hands = []
    for row, word in zip(rows, words):
        if word == "hand":
            hands.append([])
        elif word == "step":
            hands[-1].append(row)
    return hands
