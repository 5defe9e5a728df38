"""Changes: what the turns of steps do to the file.

A file is a tuple: the slot of the size, what `look` would answer at each slot, and what a power cut can leave there.
At a slot of which a plan does not mind the byte, `zero` stands for each byte of the file; where it does not mind what
is left, nothing stands.
"""


def first_file(plan):
    """Returns the file at the beginning."""
    size = plan.first_size
    shown = tuple(["old" if plan.minds_byte[slot] else "zero" for slot in range(size)]) + plan.tails[size]
    return size, shown, _left_at(plan, 0, size, "old") + _left_at(plan, size, len(shown), "end")


def _left_at(plan, start, stop, byte):
    """Returns what is left at some slots where this byte stands since the latest moment that counts."""
    return tuple([(byte,) if plan.minds_kept[slot] else () for slot in range(start, stop)])


def _resized(plan, file, size):
    """Returns the file with another size. Only if the size changes are the marks behind the end forgotten."""
    before, shown, kept = file
    if size == before:
        return file
    stays = min(before, size)
    kept = kept[:stays] + _left_at(plan, stays, size, "zero") + _left_at(plan, size, len(shown), "end")
    return size, shown[:stays] + ("zero",) * (size - stays) + plan.tails[size], kept


def _marked(plan, file, slots, mark):
    """Returns the file with a mark at those of the slots that are in it."""
    size, shown, kept = file
    shown, kept = list(shown), list(kept)
    for slot in slots:
        if slot < size and plan.minds_byte[slot]:
            shown[slot] = mark
        if slot < size and plan.minds_kept[slot] and mark not in kept[slot]:
            kept[slot] = tuple(sorted([*kept[slot], mark]))
    return size, tuple(shown), tuple(kept)


def _cut(plan, file, task, turn):
    return _resized(plan, file, task[1]), "done"


def _write(plan, file, task, turn):
    _, parts, stop, mark = task
    # A write of nothing does not make room either.
    if turn == 0 and parts[0] != ():
        file = _resized(plan, file, max(file[0], stop))
    return _marked(plan, file, parts[turn], mark), "done" if turn + 1 == len(parts) else None


def _read(plan, file, task, turn):
    size, shown, _ = file
    return file, shown[task[1]] if task[1] < size else "end"


def _look(plan, file, task, turn):
    return file, file[1][task[1]]


def _store(plan, file, task, turn):
    size, shown, kept = file
    _, slot, mark = task
    if slot < size:
        return _marked(plan, file, (slot,), mark), "done"
    if shown[slot] == "fails":
        return file, "fails"
    if plan.minds_byte[slot]:
        shown = (*shown[:slot], mark, *shown[slot + 1:])
    return (size, shown, kept), "done"


def _test(plan, file, task, turn):
    return file, "more" if task[1] < file[0] else "end"


def _sync(plan, file, task, turn):
    size, shown, kept = file
    saved = [slot < size and slot in task[1] and plan.minds_kept[slot] for slot in range(len(shown))]
    kept = tuple([(shown[slot],) if saved[slot] else kept[slot] for slot in range(len(shown))])
    return (size, shown, kept), "done"


def _no_change(plan, file, task, turn):
    return file, "done"


_ACTIONS = {
    "cut": _cut, "write": _write, "read": _read, "look": _look, "store": _store, "test": _test, "sync": _sync,
    "lock": _no_change, "unlock": _no_change,
}


def changed(plan, file, task, turn):
    """Returns the file after a turn of a step, and the answer if the turn completes the step, else None."""
    action = _ACTIONS[task[0]]
    return action(plan, file, task, turn)


def byte_at(file, slot):
    """Returns the byte at a slot, or that it is not in the file."""
    return file[1][slot] if slot < file[0] else "end"


def changes_nothing(plan, task, turn):
    """Tells whether a turn surely changes nothing that the plan minds, and goes on whatever is in the file."""
    if task[0] == "read":
        return True
    if task[0] == "sync":
        return not any([plan.minds_kept[slot] for slot in task[1]])
    if task[0] == "write" and (turn > 0 or task[1][0] == ()):
        return not any([plan.minds_byte[slot] for slot in task[1][turn]])
    return False
