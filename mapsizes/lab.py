"""A laboratory: a program that changes step by step, with changes taken back and trials."""

from mapsizes.errors import InvalidCommand, InvalidFacts, InvalidHand, InvalidInteger, NoTrial, NothingToUndo
from mapsizes.facts import Facts, placed_row
from mapsizes.likeness import alike
from mapsizes.outcomes import answers
from mapsizes.places import is_integer, is_list
from mapsizes.programs import Program, check_program

_LENGTHS = {
    "hand": 3, "put": 4, "take_out": 3, "exchange": 5, "begin_at": 2, "assume": 2, "forget": 2, "trial": 2, "kept": 2,
}


class Layer:
    """A program that changes, in a laboratory or in a trial, and the changes, each with the program ahead of it."""

    def __init__(self, program, outer):
        self.present = program
        self.changes = []
        self.outer = outer


class Pile:
    """The layers of a laboratory: that of the innermost trial lies on top."""

    def __init__(self, program):
        self.top = Layer(program, None)


class Trial:
    """Lets the program and the log go back at the end of a block to what they were when it began."""

    def __init__(self, lab, pile):
        self._lab = lab
        self._pile = pile
        self._outer = None

    def __enter__(self):
        self._outer = self._pile.top
        self._pile.top = Layer(self._outer.present, self._outer)
        return self._lab

    def __exit__(self, kind, value, trace):
        self._pile.top = self._outer


class Lab:
    """Holds a program that changes."""

    def __init__(self, program):
        check_program(program)
        self._start = program
        self._pile = Pile(program)

    def program(self):
        """Returns the program as it is now."""
        return self._pile.top.present

    def __getitem__(self, at):
        self._check_hand(at)
        return self.program().hands()[at]

    def __iter__(self):
        # Without this Python would ask for lab[0], lab[1] and so on, until a hand is refused.
        raise TypeError("a laboratory has no items to go through")

    def __setitem__(self, at, worth):
        made = self.program().with_hand(at, worth)
        self._change(made, ("hand", at, tuple(made.hands()[at])))

    def __len__(self):
        return len(self._pile.top.changes)

    def put(self, hand, at, step):
        """Puts a step ahead of the one with an index, or behind the last one."""
        steps = self._steps(hand)
        self._check_index(at, 0, len(steps))
        made = self.program().with_hand(hand, [*steps[:at], step, *steps[at:]])
        self._change(made, ("put", hand, at, made.step(hand, at)))

    def take_out(self, hand, at):
        """Takes out a step and returns it."""
        steps = self._steps(hand)
        self._check_index(at, 0, len(steps) - 1)
        made = self.program().with_hand(hand, steps[:at] + steps[at + 1:])
        self._change(made, ("take_out", hand, at))
        return steps[at]

    def exchange(self, hand, start, stop, steps):
        """Replaces the steps from one index up to, but not including, another one."""
        before = self._steps(hand)
        self._check_index(start, 0, len(before))
        self._check_index(stop, start, len(before))
        if not is_list(steps):
            raise InvalidHand(steps)
        made = self.program().with_hand(hand, [*before[:start], *steps, *before[stop:]])
        put = made.hands()[hand][start:start + len(steps)]
        self._change(made, ("exchange", hand, start, stop, tuple(put)))

    def begin_at(self, place):
        """Gives the program another first place."""
        now = self.program()
        made = Program(now.hands(), first=place, facts=now.facts, page=now.page)
        self._change(made, ("begin_at", made.first))

    def assume(self, row):
        """Adds a row to the facts."""
        rows = [*self.program().facts.rows(), row]
        try:
            facts = Facts(*rows)
        except InvalidFacts:
            # The document wants a list here, while facts tell the tuple that they got.
            raise InvalidFacts(rows) from None
        self._change(self._with_facts(facts), ("assume", placed_row(row)))

    def forget(self, index):
        """Takes a row out of the facts and returns it."""
        rows = self.program().facts.rows()
        self._check_index(index, 0, len(rows) - 1)
        left = rows[:index] + rows[index + 1:]
        self._change(self._with_facts(Facts(*left)), ("forget", index))
        return rows[index]

    def undo(self):
        """Takes back the last change that was not taken back."""
        top = self._pile.top
        if top.changes == []:
            raise NothingToUndo()
        before, _ = top.changes[-1]
        top.present = before
        top.changes = top.changes[:-1]

    def log(self):
        """Returns the changes that can be taken back, the earliest first."""
        return [row for _, row in self._pile.top.changes]

    def trial(self):
        """Returns a trial for a `with` statement, at whose end the program and the log go back."""
        return Trial(self, self._pile)

    def keep(self):
        """Makes the program and the log, as they are now, those to which the innermost trial goes back."""
        top = self._pile.top
        if top.outer is None:
            raise NoTrial()
        top.outer.present = top.present
        top.outer.changes = top.outer.changes + top.changes
        top.changes = []

    def change_by(self, row):
        """Makes the change that a tuple of a log tells, or several of them in a trial."""
        if not _is_change(row):
            raise InvalidCommand(row)
        word, *items = row
        if word == "trial":
            self.tried(*items)
        elif word == "kept":
            with self.trial():
                self._change_by_each(*items)
                self.keep()
        else:
            self._change_alone(word, items)

    def tried(self, rows):
        """Makes changes in a trial, and returns the program as it was at the end of it."""
        if not is_list(rows):
            raise InvalidCommand(rows)
        with self.trial():
            self._change_by_each(rows)
            return self.program()

    def answers(self, hand, step):
        """Returns all answers of a step of the program as it is now."""
        return answers(self.program(), hand, step)

    def parted(self):
        """Tells as `alike` whether the program is alike to the one with which the laboratory was made."""
        return alike(self._start, self.program())

    def _change_by_each(self, rows):
        for row in rows:
            self.change_by(row)

    def _change_alone(self, word, items):
        if word == "hand":
            hand, steps = items
            self[hand] = steps
        elif word == "put":
            self.put(*items)
        elif word == "take_out":
            self.take_out(*items)
        elif word == "exchange":
            self.exchange(*items)
        elif word == "begin_at":
            self.begin_at(*items)
        elif word == "assume":
            self.assume(*items)
        else:
            self.forget(*items)

    def _change(self, made, row):
        top = self._pile.top
        top.changes = [*top.changes, (top.present, row)]
        top.present = made

    def _with_facts(self, facts):
        now = self.program()
        return Program(now.hands(), first=now.first, facts=facts, page=now.page)

    def _steps(self, hand):
        self._check_hand(hand)
        return self.program().hands()[hand]

    def _check_hand(self, hand):
        self._check_index(hand, 0, len(self.program().hands()) - 1)

    def _check_index(self, index, low, high):
        if not is_integer(index, low, high):
            raise InvalidInteger(index)


def _is_change(value):
    """Tells whether any value is a tuple with the word of a change, and with as many items as this has."""
    if not isinstance(value, tuple) or value == () or not isinstance(value[0], str):
        return False
    if value[0] not in _LENGTHS or len(value) != _LENGTHS[value[0]]:
        return False
    return value[0] not in ("trial", "kept") or is_list(value[1])
