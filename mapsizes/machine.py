"""The machine: a program that is carried out at a setting, turn by turn."""

from mapsizes.errors import InvalidInteger, InvalidPlace, InvalidWeaving, NotReady
from mapsizes.places import Place, is_integer, is_list
from mapsizes.plans import Plan, after_turn, byte_at, first_state, outcome_of, ready_hands, told_state


class Machine:
    """Carries out a program at a setting. Only `take` changes it."""

    def __init__(self, program, setting):
        self._plan = Plan(program, setting)
        self._program = program
        self._setting = setting
        self._now = first_state(self._plan)

    def ready(self):
        """Returns the ascending list of the ready hands."""
        return ready_hands(self._plan, self._now)

    def take(self, hand):
        """Lets a hand take one turn; returns the answer of the step if the turn completes it, else None."""
        if not self._has_hand(hand) or hand not in self.ready():
            raise NotReady(hand)
        self._now, answer = after_turn(self._plan, self._now, hand)
        return answer

    def outcome(self):
        """Returns for each hand the tuple of the answers of all its steps."""
        return outcome_of(self._plan, self._now)

    def size(self):
        """Returns the length of the file."""
        size = self._now[1][0]
        return self._plan.points[size]

    def byte(self, place):
        """Returns the byte at a place of the program, or that it is not in the file."""
        return byte_at(self._now, self._slot(place))

    def shown(self, place):
        """Returns what `look` would answer at a place of the program."""
        slot = self._slot(place)
        return self._now[1][1][slot]

    def kept(self, place):
        """Returns the ascending list of what a power cut can leave at a place of the program."""
        slot = self._slot(place)
        return list(self._now[1][2][slot])

    def ended(self, hand):
        """Tells whether a hand has ended."""
        self._check_hand(hand)
        return self._now[0][hand][2]

    def holds(self, hand):
        """Returns the ascending list of the names that a hand holds."""
        self._check_hand(hand)
        return [name for name, holder in self._now[2] if holder == hand]

    def state(self):
        """Returns all of the machine as a tuple that can be compared."""
        return told_state(self._plan, self._now)

    def copied(self):
        """Returns an independent machine in the same state."""
        twin = Machine(self._program, self._setting)
        twin._now = self._now
        return twin

    def _has_hand(self, hand):
        return is_integer(hand, 0, len(self._plan.tasks) - 1)

    def _check_hand(self, hand):
        if not self._has_hand(hand):
            raise InvalidInteger(hand)

    def _slot(self, place):
        text = str(Place.of(place))
        if text not in self._plan.slots:
            raise InvalidPlace(place)
        return self._plan.slots[text]


def run(program, setting, weaving):
    """Returns the machine after the turns of a weaving."""
    machine = Machine(program, setting)
    if not is_list(weaving):
        raise InvalidWeaving(weaving)
    for hand in weaving:
        try:
            machine.take(hand)
        except NotReady:
            raise InvalidWeaving(weaving) from None
    return machine
