"""Programs: the steps of some hands, the size of the file at the beginning, facts, and a page size."""

from mapsizes.errors import InvalidFacts, InvalidHand, InvalidInteger, InvalidProgram, InvalidSetting, InvalidStep
from mapsizes.facts import Facts, places_of_rows
from mapsizes.places import Place, is_integer, is_list, unknowns_of
from mapsizes.settings import Setting, are_too_many, has_page, has_sizes, is_page_choice
from mapsizes.steps import is_step, placed_step, places_of_step

_MOST_HANDS = 3
_MOST_STEPS = 12
_MOST_PLACES = 14


def _keeps_locks(hand):
    """Tells whether the steps of a hand lock no name that it holds, and unlock none that it does not hold."""
    held = []
    for step in hand:
        if step[0] in ("lock", "unlock"):
            if (step[1] in held) == (step[0] == "lock"):
                return False
            if step[0] == "lock":
                held.append(step[1])
            else:
                held.remove(step[1])
    return True


def _check_hand(hand):
    if not is_list(hand) or len(hand) > _MOST_STEPS:
        raise InvalidHand(hand)
    for step in hand:
        if not is_step(step):
            raise InvalidStep(step)
    if not _keeps_locks(hand):
        raise InvalidHand(hand)


def different_places(places):
    """Returns the different ones of some Place objects, in the order in which they appear."""
    found = {}
    for place in places:
        found.setdefault(str(place), place)
    return list(found.values())


def with_places_of_facts(places, facts):
    """Returns the different ones of some Place objects and of the places of facts."""
    return different_places(places + places_of_rows(facts.rows()))


def are_within_limits(places, page):
    """Tells whether one program with a choice of a page size may have these different places, and their unknowns."""
    return len(places) <= _MOST_PLACES and not are_too_many(unknowns_of(places), page)


def check_program(value):
    """Raises InvalidProgram for any value that is not a Program."""
    if not isinstance(value, Program):
        raise InvalidProgram(value)


def check_setting(program, value):
    """Raises InvalidSetting for any value that is not a setting of a program."""
    if not program.allows(value):
        raise InvalidSetting(value)


class Program:
    """Some hands that work on one file. It never changes."""

    def __init__(self, hands, *, first, facts=None, page=None):
        if not is_list(hands) or not 1 <= len(hands) <= _MOST_HANDS:
            raise InvalidProgram(hands)
        for hand in hands:
            _check_hand(hand)
        start = Place.of(first)
        if facts is not None and not isinstance(facts, Facts):
            raise InvalidFacts(facts)
        if not is_page_choice(page):
            raise InvalidInteger(page)
        self._hands = [[placed_step(step) for step in steps] for steps in hands]
        self._first = start
        self._facts = Facts() if facts is None else facts
        self._page = page
        placed = [step for steps in self._hands for step in steps]
        self._places = different_places([start] + [place for step in placed for place in places_of_step(step)])
        together = with_places_of_facts(self._places, self._facts)
        self._unknowns = unknowns_of(together)
        if not are_within_limits(together, page):
            raise InvalidProgram(hands)

    def hands(self):
        """Returns a new list of new lists of the steps, with Place objects."""
        return [list(hand) for hand in self._hands]

    @property
    def first(self):
        """The place whose value is the size of the file at the beginning."""
        return self._first

    @property
    def facts(self):
        """The facts, also if there are none."""
        return self._facts

    @property
    def page(self):
        """The page size, or None for all large ones."""
        return self._page

    def places(self):
        """Returns a new list of the different places of `first` and of the steps, as they appear."""
        return list(self._places)

    def unknowns(self):
        """Returns a new ascending list of the unknowns of the places and of the facts."""
        return list(self._unknowns)

    def allows(self, value):
        """Tells whether any value is a setting of the program."""
        if not isinstance(value, Setting) or not has_sizes(value, self._unknowns):
            return False
        if not has_page(value, self._page) or not self._facts.holds(value):
            return False
        return min([value[place] for place in self._places]) >= 0

    def step(self, hand, index):
        """Returns a step of a hand, with Place objects."""
        self._check_hand_index(hand)
        if not is_integer(index, 0, len(self._hands[hand]) - 1):
            raise InvalidInteger(index)
        return self._hands[hand][index]

    def with_hand(self, hand, steps):
        """Returns the program in which a hand has other steps."""
        self._check_hand_index(hand)
        hands = self.hands()
        hands[hand] = steps
        return Program(hands, first=self._first, facts=self._facts, page=self._page)

    def _check_hand_index(self, hand):
        if not is_integer(hand, 0, len(self._hands) - 1):
            raise InvalidInteger(hand)

    def __len__(self):
        return len([step for steps in self._hands for step in steps])

    def __eq__(self, other):
        if not isinstance(other, Program) or self._page != other._page:
            return False
        return self._hands == other._hands and self._first == other._first and self._facts == other._facts

    def __repr__(self):
        return f"Program({self._hands!r}, first={self._first!r}, facts={self._facts!r}, page={self._page})"
