"""The machine: a program that is carried out at a setting, turn by turn."""

from mapsizes.changes import byte_at
from mapsizes.errors import InvalidInteger, InvalidPlace, InvalidWeaving, NotReady
from mapsizes.places import Place, is_integer, is_list
from mapsizes.plans import Plan
from mapsizes.turns import Telling, Turns


class Machine:
    """Carries out a program at a setting. Only `take` changes it."""

    def __init__(self, program, setting):
        self._plan = Plan(program, setting)
        self._program = program
        self._setting = setting
        self._turns = Turns(self._plan)
        self._now = self._turns.beginning()

    def ready(self):
        """Returns the ascending list of the ready hands."""
        return self._turns.ready(self._now)

    def take(self, hand):
        """Lets a hand take one turn; returns the answer of the step if the turn completes it, else None."""
        if not self._has_hand(hand) or hand not in self.ready():
            raise NotReady(hand)
        _, _, answer = self._turns.moved(self._now[hand], self._now[-1])
        self._now = self._turns.after(self._now, hand)
        return answer

    def outcome(self):
        """Returns for each hand the tuple of the answers of all its steps."""
        return self._turns.outcome(self._now)

    def size(self):
        """Returns the length of the file."""
        size, _, _ = self._file_now()
        return self._plan.points[size]

    def byte(self, place):
        """Returns the byte at a place of the program, or that it is not in the file."""
        return byte_at(self._file_now(), self._slot(place))

    def shown(self, place):
        """Returns what `look` would answer at a place of the program."""
        _, shown, _ = self._file_now()
        return shown[self._slot(place)]

    def kept(self, place):
        """Returns the ascending list of what a power cut can leave at a place of the program."""
        _, _, kept = self._file_now()
        return list(kept[self._slot(place)])

    def ended(self, hand):
        """Tells whether a hand has ended."""
        _, _, _, over = self._row_of(hand)
        return over

    def holds(self, hand):
        """Returns the ascending list of the names that a hand holds."""
        self._check_hand(hand)
        return list(self._turns.held[self._now[hand]])

    def state(self):
        """Returns all of the machine as a tuple that can be compared."""
        return Telling(self._turns).state(self._now)

    def copied(self):
        """Returns an independent machine in the same state."""
        # Both go on with the same turns: what these have found holds for each machine of the program at the setting.
        twin = Machine(self._program, self._setting)
        twin._turns, twin._now = self._turns, self._now
        return twin

    def _file_now(self):
        return self._turns.known_files[self._now[-1]]

    def _row_of(self, hand):
        self._check_hand(hand)
        return self._turns.known_rows[self._now[hand]]

    def _has_hand(self, hand):
        return is_integer(hand, 0, len(self._plan.tasks) - 1)

    def _check_hand(self, hand):
        if not self._has_hand(hand):
            raise InvalidInteger(hand)

    def _slot(self, place):
        text = str(Place.of(place))
        if text not in self._plan.slots:
            raise InvalidPlace(place)
        return self._plan.slots[text]


def run(program, setting, weaving):
    """Returns the machine after the turns of a weaving."""
    machine = Machine(program, setting)
    if not is_list(weaving):
        raise InvalidWeaving(weaving)
    for hand in weaving:
        try:
            machine.take(hand)
        except NotReady:
            raise InvalidWeaving(weaving) from None
    return machine
