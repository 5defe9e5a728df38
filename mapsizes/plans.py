"""Plans: a program at one setting, made ready to be carried out, and the turns of its hands.

Only the bytes at places of the program can ever be told. So the file is kept as slots: the different values of the
places in ascending order. The size is kept as a slot, too, because it is always the value of a place; a slot is in
the file if it is less than that of the size.

States are tuples that never change, so that they can be shared, compared and found again. A state has

- for each hand the answers of its completed steps, the number of turns taken of the step behind them, and whether the
  hand has ended;
- the file: the slot of the size, what `look` would answer at each slot, and what a power cut can leave there;
- the ascending (name, hand) of the names that are held.
"""

from mapsizes.errors import InvalidProgram, InvalidSetting
from mapsizes.programs import Program


class Plan:
    """A program at one of its settings, with slots instead of places."""

    def __init__(self, program, setting, *, answers_only=False):
        if not isinstance(program, Program):
            raise InvalidProgram(program)
        if not program.allows(setting):
            raise InvalidSetting(setting)
        places = program.places()
        hands = program.hands()
        self.points = sorted(set([setting[place] for place in places]))
        self.slots = {str(place): self.points.index(setting[place]) for place in places}
        self.first_size = self.slots[str(program.first)]
        self.pages = [point // setting.page for point in self.points]
        # The page of the last byte if the file ends at a point. That of an empty file is -1, and no slot lies there.
        self.last_pages = [(point - 1) // setting.page for point in self.points]
        self.tails = [_tail(self, slot) for slot in range(len(self.points))]
        self.tasks = [[_task(self, step) for step in hand] for hand in hands]
        # Where only answers are asked, what a power cut leaves is not kept, nor a byte that no step can tell.
        told = [self.slots[str(step[1])] for hand in hands for step in hand if step[0] in ("read", "look")]
        self.minds_byte = [slot in told or not answers_only for slot in range(len(self.points))]
        self.minds_kept = not answers_only


def _tail(plan, size):
    """Returns what `look` answers at the slots behind a size that was just reached."""
    last = plan.last_pages[size]
    return tuple(["zero" if page == last else "fails" for page in plan.pages[size:]])


def _parts(plan, start, stop):
    """Returns the slots that each turn of a write reaches, one page in each."""
    if stop <= start:
        return ((),)
    pages = sorted(set(plan.pages[start:stop]))
    return tuple([tuple([slot for slot in range(start, stop) if plan.pages[slot] == page]) for page in pages])


def _saved_slots(plan, start, stop):
    """Returns the slots whose pages a sync saves."""
    if stop <= start:
        return ()
    first, last = plan.pages[start], plan.last_pages[stop]
    return tuple([slot for slot, page in enumerate(plan.pages) if first <= page <= last])


def _task(plan, step):
    """Returns a step with slots instead of places."""
    if step[0] in ("lock", "unlock"):
        return step
    start = plan.slots[str(step[1])]
    if step[0] == "write":
        stop = plan.slots[str(step[2])]
        return ("write", _parts(plan, start, stop), stop, step[3])
    if step[0] == "sync":
        return ("sync", _saved_slots(plan, start, plan.slots[str(step[2])]))
    return (step[0], start, *step[2:])


def _resized(plan, file, size):
    """Returns the file with another size. Only if the size changes are the marks behind the end forgotten."""
    before, shown, kept = file
    if size == before:
        return file
    stays = min(before, size)
    comes = size - stays
    if plan.minds_kept:
        kept = kept[:stays] + (("zero",),) * comes + (("end",),) * (len(shown) - size)
    return size, shown[:stays] + ("zero",) * comes + plan.tails[size], kept


def _marked(plan, file, slots, mark):
    """Returns the file with a mark at those of the slots that are in it."""
    size, shown, kept = file
    shown, kept = list(shown), list(kept)
    for slot in slots:
        if slot < size and plan.minds_byte[slot]:
            shown[slot] = mark
        if slot < size and plan.minds_kept and mark not in kept[slot]:
            kept[slot] = tuple(sorted([*kept[slot], mark]))
    return size, tuple(shown), tuple(kept)


def _cut(plan, file, task, turn):
    return _resized(plan, file, task[1]), "done"


def _write(plan, file, task, turn):
    _, parts, stop, mark = task
    # A write of nothing does not make room either.
    if turn == 0 and parts[0] != ():
        file = _resized(plan, file, max(file[0], stop))
    return _marked(plan, file, parts[turn], mark), "done" if turn + 1 == len(parts) else None


def _read(plan, file, task, turn):
    size, shown, _ = file
    return file, shown[task[1]] if task[1] < size else "end"


def _look(plan, file, task, turn):
    return file, file[1][task[1]]


def _store(plan, file, task, turn):
    size, shown, kept = file
    _, slot, mark = task
    if slot < size:
        return _marked(plan, file, (slot,), mark), "done"
    if shown[slot] == "fails":
        return file, "fails"
    if plan.minds_byte[slot]:
        shown = (*shown[:slot], mark, *shown[slot + 1:])
    return (size, shown, kept), "done"


def _test(plan, file, task, turn):
    return file, "more" if task[1] < file[0] else "end"


def _sync(plan, file, task, turn):
    size, shown, kept = file
    if plan.minds_kept:
        saved = [slot < size and slot in task[1] for slot in range(len(shown))]
        kept = tuple([(shown[slot],) if saved[slot] else kept[slot] for slot in range(len(shown))])
    return (size, shown, kept), "done"


def _no_change(plan, file, task, turn):
    return file, "done"


_ACTIONS = {
    "cut": _cut, "write": _write, "read": _read, "look": _look, "store": _store, "test": _test, "sync": _sync,
    "lock": _no_change, "unlock": _no_change,
}


def _ends_hand(task, answer):
    return answer == "fails" or (task[0] == "test" and answer == "end")


def _held_after(held, hand, task, over):
    """Returns the names that are held behind a step that is completed."""
    if over:
        return tuple([row for row in held if row[1] != hand])
    if task[0] == "lock":
        return tuple(sorted([*held, (task[1], hand)]))
    if task[0] == "unlock":
        return tuple([row for row in held if row[0] != task[1]])
    return held


def first_state(plan):
    """Returns the state in which no hand has taken a turn."""
    hands = tuple([((), 0, tasks == []) for tasks in plan.tasks])
    size = plan.first_size
    shown = tuple(["old" if plan.minds_byte[slot] else "zero" for slot in range(size)]) + plan.tails[size]
    kept = (("old",),) * size + (("end",),) * (len(shown) - size) if plan.minds_kept else ()
    return hands, (size, shown, kept), ()


def ready_hands(plan, state):
    """Returns the ascending list of the hands that are ready."""
    hands, _, held = state
    found = []
    for hand, (answers, _, over) in enumerate(hands):
        if not over:
            task = plan.tasks[hand][len(answers)]
            if task[0] != "lock" or not any([name == task[1] and other != hand for name, other in held]):
                found.append(hand)
    return found


def after_turn(plan, state, hand):
    """Returns the state after a turn of a ready hand, and the answer if the turn completes a step, else None."""
    hands, file, held = state
    answers, turn, _ = hands[hand]
    task = plan.tasks[hand][len(answers)]
    action = _ACTIONS[task[0]]
    file, answer = action(plan, file, task, turn)
    moved = (answers, turn + 1, False)
    if answer is not None:
        answers = (*answers, answer)
        over = len(answers) == len(plan.tasks[hand]) or _ends_hand(task, answer)
        moved = (answers, 0, over)
        held = _held_after(held, hand, task, over)
    return ((*hands[:hand], moved, *hands[hand + 1:]), file, held), answer


def outcome_of(plan, state):
    """Returns for each hand the tuple of the answers of all its steps."""
    told = [row[0] for row in state[0]]
    missing = [len(tasks) - len(answers) for tasks, answers in zip(plan.tasks, told)]
    return tuple([answers + ("none",) * count for answers, count in zip(told, missing)])


def byte_at(state, slot):
    """Returns the byte at a slot, or that it is not in the file."""
    size, shown, _ = state[1]
    return shown[slot] if slot < size else "end"


def told_state(plan, state):
    """Returns all of a state, with a text for the size and a byte for each place of the program."""
    hands, (size, shown, kept), held = state
    slots = list(plan.slots.values())
    return (
        tuple([(answers, turn) for answers, turn, _ in hands]),
        [text for text, slot in plan.slots.items() if slot == size][0],
        tuple([byte_at(state, slot) for slot in slots]),
        tuple([shown[slot] for slot in slots]),
        tuple([kept[slot] for slot in slots]),
        held,
    )
