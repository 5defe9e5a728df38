"""Plans: a program at one setting, with slots instead of places.

Only the bytes at places of the program can ever be told. So the file is kept as slots: the different values of the
places in ascending order. The size is kept as a slot, too, because it is always the value of a place; a slot is in
the file if it is less than that of the size.
"""

from mapsizes.programs import check_program, check_setting


class Plan:
    """A program at one of its settings, with slots instead of places.

    A search that asks little can leave out much: `seen` are the texts of the places of which it minds the byte, `kept`
    those of which it minds what a power cut can leave there as well. None stands for all.
    """

    def __init__(self, program, setting, *, seen=None, kept=None):
        check_program(program)
        check_setting(program, setting)
        places = program.places()
        self.points = sorted(set([setting[place] for place in places]))
        self.slots = {str(place): self.points.index(setting[place]) for place in places}
        self.first_size = self.slots[str(program.first)]
        self.pages = [point // setting.page for point in self.points]
        # The page of the last byte if the file ends at a point. That of an empty file is -1, and no slot lies there.
        self.last_pages = [(point - 1) // setting.page for point in self.points]
        self.tasks = tuple([tuple([_task(self, step) for step in hand]) for hand in program.hands()])
        self.minds_byte = _minded(self, seen)
        self.minds_kept = _minded(self, kept)
        looked = _looked_slots(self) if seen is not None else list(range(len(self.points)))
        self.tails = {size: _tail(self, size, looked) for size in _sizes(self)}

    def signature(self):
        """Returns what is equal for two plans exactly if they are carried out alike."""
        tails = tuple(list(self.tails.items()))
        return self.first_size, self.tasks, tails, tuple(self.minds_byte), tuple(self.minds_kept)


def plan_of_answers(program, setting):
    """Returns a plan for searches that ask for answers alone."""
    check_program(program)
    told = [str(step[1]) for hand in program.hands() for step in hand if step[0] in ("read", "look")]
    return Plan(program, setting, seen=told, kept=[])


def plan_of_place(program, setting, text):
    """Returns a plan for searches that ask what a power cut can leave at one place, and for no answers of bytes."""
    return Plan(program, setting, seen=[text], kept=[text])


def plan_of_sizes(program, setting):
    """Returns a plan for searches that ask for no byte at all."""
    return Plan(program, setting, seen=[], kept=[])


def _minded(plan, texts):
    """Returns for each slot whether one of some places, or of all places, lies there."""
    slots = list(plan.slots.values()) if texts is None else [plan.slots[text] for text in texts]
    return [slot in slots for slot in range(len(plan.points))]


def _sizes(plan):
    """Returns the ascending list of the slots that can be the size."""
    made = [task[1] for hand in plan.tasks for task in hand if task[0] == "cut"]
    made = made + [task[2] for hand in plan.tasks for task in hand if task[0] == "write"]
    return sorted(set([plan.first_size, *made]))


def _looked_slots(plan):
    """Returns the slots that steps look at through a map."""
    return [task[1] for hand in plan.tasks for task in hand if task[0] in ("look", "store")]


def _tail(plan, size, looked):
    """Returns what `look` answers at the slots behind a size that was just reached, as far as steps can look there."""
    last = plan.last_pages[size]
    slots = list(range(size, len(plan.points)))
    return tuple(["zero" if plan.pages[slot] == last and slot in looked else "fails" for slot in slots])


def _parts(plan, start, stop):
    """Returns the slots that each turn of a write reaches, one page in each."""
    if stop <= start:
        return ((),)
    pages = sorted(set(plan.pages[start:stop]))
    return tuple([tuple([slot for slot in range(start, stop) if plan.pages[slot] == page]) for page in pages])


def _saved_slots(plan, start, stop):
    """Returns the slots whose pages a sync saves."""
    if stop <= start:
        return ()
    first, last = plan.pages[start], plan.last_pages[stop]
    return tuple([slot for slot, page in enumerate(plan.pages) if first <= page <= last])


def _task(plan, step):
    """Returns a step with slots instead of places."""
    if step[0] in ("lock", "unlock"):
        return step
    start = plan.slots[str(step[1])]
    if step[0] == "write":
        stop = plan.slots[str(step[2])]
        return ("write", _parts(plan, start, stop), stop, step[3])
    if step[0] == "sync":
        return ("sync", _saved_slots(plan, start, plan.slots[str(step[2])]))
    return (step[0], start, *step[2:])
