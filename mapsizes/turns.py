"""Turns: the states of a machine, and the turns of the hands from one to another.

A turn depends on nothing but how far its hand is and on the file, while very many states are made of few of both. So
each of them has a number: a state is the tuple of the numbers of the rows, hand by hand, which tell how far the hands
are, and last the number of the file. The number of a turn's new row and file are looked up if it was taken before.
"""

from mapsizes.changes import byte_at, changed, first_file


class Turns:
    """The states of a plan, and the turns from one to another.

    A row is the tuple of the hand, the answers of its completed steps, the number of turns that were taken of the step
    behind them, and whether the hand has ended. Unless `noted` is None, the answers are left out, other than for the
    (hand, step) of this list, where a note stands: a store has `written`, `tail` or `fails`, a sync `sure` or `unsure`.
    """

    def __init__(self, plan, *, noted=None):
        self.plan = plan
        self.noted = noted
        self.known_rows = []
        self.known_files = []
        self.wanted = []
        self.held = []
        self._row_numbers = {}
        self._file_numbers = {}
        self._moves = {}

    def beginning(self):
        """Returns the state in which no hand has taken a turn."""
        rows = [self._row((hand, (), 0, tasks == ())) for hand, tasks in enumerate(self.plan.tasks)]
        return (*rows, self._file(first_file(self.plan)))

    def ready(self, state):
        """Returns the ascending list of the hands that are ready."""
        wanted = [self.wanted[row] for row in state[:-1]]
        return [hand for hand, name in enumerate(wanted) if name == "" or not self._is_kept_from(state, name)]

    def after(self, state, hand):
        """Returns the state after a turn of a ready hand."""
        row, file, _ = self.moved(state[hand], state[-1])
        return (*state[:hand], row, *state[hand + 1:-1], file)

    def moved(self, row, file):
        """Returns the numbers of the row and of the file after a turn, and the answer if it completes a step."""
        key = (row, file)
        if key not in self._moves:
            self._moves[key] = self._new_move(row, file)
        return self._moves[key]

    def outcome(self, state):
        """Returns for each hand the tuple of the answers of all its steps."""
        told = [self.known_rows[row][1] for row in state[:-1]]
        return tuple([
            answers + ("none",) * (len(tasks) - len(answers)) for answers, tasks in zip(told, self.plan.tasks)
        ])

    def note(self, state, hand, step):
        """Returns the note of a step, or the answer, `none` if it is not completed."""
        answers = self.known_rows[state[hand]][1]
        return answers[step] if step < len(answers) else "none"

    def kept_at(self, state, slot):
        """Returns the tuple of what a power cut can leave at a slot."""
        _, _, kept = self.known_files[state[-1]]
        return kept[slot]

    def _is_kept_from(self, state, name):
        """Tells whether a hand that wants this name, or that has ended, cannot take a turn."""
        # No hand wants a name that it holds itself: programs see to that.
        return name is None or any([name in self.held[row] for row in state[:-1]])

    def _row(self, row):
        """Returns the number of a row."""
        if row not in self._row_numbers:
            self._row_numbers[row] = len(self.known_rows)
            self.known_rows.append(row)
            self.wanted.append(_name_wanted(self.plan, row))
            self.held.append(_names_held(self.plan, row))
        return self._row_numbers[row]

    def _file(self, file):
        """Returns the number of a file."""
        if file not in self._file_numbers:
            self._file_numbers[file] = len(self.known_files)
            self.known_files.append(file)
        return self._file_numbers[file]

    def _new_move(self, row, file):
        hand, answers, turn, _ = self.known_rows[row]
        tasks, before = self.plan.tasks[hand], self.known_files[file]
        task = tasks[len(answers)]
        after, answer = changed(self.plan, before, task, turn)
        moved = (hand, answers, turn + 1, False)
        if answer is not None:
            told = answer
            if self.noted is not None:
                told = _note(self.plan, before, after, task, answer) if (hand, len(answers)) in self.noted else "done"
            over = len(answers) + 1 == len(tasks) or answer == "fails" or (task[0] == "test" and answer == "end")
            moved = (hand, (*answers, told), 0, over)
        return self._row(moved), self._file(after), answer


def _note(plan, before, after, task, answer):
    """Returns what happened at a store or at a sync."""
    if task[0] == "store":
        if answer == "fails":
            return answer
        return "written" if task[1] < before[0] else "tail"
    size, _, kept = after
    several = [slot for slot in range(size) if len(kept[slot]) > 1]
    return "sure" if several == [] else "unsure"


def _name_wanted(plan, row):
    """Returns the name that the next turn locks, an empty text if it locks none, and None if the hand has ended."""
    hand, answers, _, over = row
    if over:
        return None
    task = plan.tasks[hand][len(answers)]
    return task[1] if task[0] == "lock" else ""


def _names_held(plan, row):
    """Returns the names that the hand of a row holds."""
    hand, answers, _, over = row
    held = []
    for task in plan.tasks[hand][:len(answers)]:
        if task[0] == "lock":
            held.append(task[1])
        elif task[0] == "unlock":
            held.remove(task[1])
    return [] if over else sorted(held)


class Telling:
    """Tells the states of some turns as the document asks for them; what states share is made once."""

    def __init__(self, turns):
        self._turns = turns
        self._told_rows = {}
        self._told_files = {}

    def state(self, state):
        """Returns all of a state."""
        rows, file = state[:-1], state[-1]
        hands = tuple([self._hand(row) for row in rows])
        held = [(name, hand) for hand, row in enumerate(rows) for name in self._turns.held[row]]
        return (hands, *self._file(file), tuple(sorted(held)))

    def _hand(self, row):
        if row not in self._told_rows:
            _, answers, turn, _ = self._turns.known_rows[row]
            self._told_rows[row] = (answers, turn)
        return self._told_rows[row]

    def _file(self, number):
        if number not in self._told_files:
            slots, file = self._turns.plan.slots, self._turns.known_files[number]
            size, shown, kept = file
            self._told_files[number] = (
                [text for text, slot in slots.items() if slot == size][0],
                tuple([byte_at(file, slot) for slot in slots.values()]),
                tuple([shown[slot] for slot in slots.values()]),
                tuple([kept[slot] for slot in slots.values()]),
            )
        return self._told_files[number]
