"""All weavings of a program at one setting: the orders of turns, and what can come of them."""

from mapsizes.errors import InvalidPattern
from mapsizes.places import is_integer, is_list
from mapsizes.plans import Plan, plan_of_answers
from mapsizes.programs import check_program
from mapsizes.searches import all_states, least_weavings
from mapsizes.turns import Telling, Turns

# So deep are the tuples of a state nested: all of it, its hands, one of them, and the answers of that one.
_DEPTH_OF_STATES = 4


def weavings(program, setting):
    """Yields all complete weavings, new lists, in ascending order."""
    turns = Turns(Plan(program, setting))
    left = [([], turns.beginning())]
    while left != []:
        weaving, state = left.pop()
        ready = turns.ready(state)
        if ready == []:
            yield weaving
        # The least hand comes last, because the last one is taken out first.
        for hand in ready[::-1]:
            left.append(([*weaving, hand], turns.after(state, hand)))


def replay(program, setting, outcome, weaving):
    """Tells whether any value is a complete weaving that has an outcome."""
    plan = Plan(program, setting)
    if not is_list(weaving):
        return False
    turns = Turns(plan)
    state = turns.beginning()
    for hand in weaving:
        if not is_integer(hand, 0, len(plan.tasks) - 1) or hand not in turns.ready(state):
            return False
        state = turns.after(state, hand)
    return turns.ready(state) == [] and turns.outcome(state) == outcome


def outcomes_at(program, setting):
    """Returns each outcome of a complete weaving, ascending, with the least complete weaving that has it."""
    found = least_weavings(Turns(plan_of_answers(program, setting)))
    return [(outcome, list(found[outcome])) for outcome in sorted(list(found))]


def states_at(program, setting):
    """Returns the states after all weavings, each once, in the order of the least weavings that lead to them."""
    turns = Turns(Plan(program, setting))
    telling = Telling(turns)
    return [telling.state(state) for state in all_states(turns)]


def shows(outcome, pattern):
    """Tells whether an outcome has all the answers of a pattern."""
    return all([outcome[hand][step] == answer for hand, step, answer in pattern])


def is_pattern(program, value):
    """Tells whether any value is a list of (hand, step, answer) with steps of the program."""
    check_program(program)
    hands = program.hands()
    return is_list(value) and all([_is_row_of_pattern(hands, item) for item in value])


def _is_row_of_pattern(hands, value):
    return isinstance(value, tuple) and len(value) == 3 and isinstance(value[2], str) and is_step_at(hands, value[:2])


def is_step_at(hands, value):
    """Tells whether any tuple of two has the indexes of a hand and of one of its steps."""
    hand, step = value
    return is_integer(hand, 0, len(hands) - 1) and is_integer(step, 0, len(hands[hand]) - 1)


def is_closed(program, setting, states, *, barred):
    """Tells whether any value is a list of all states, and no complete weaving shows the pattern that is barred."""
    turns = Turns(Plan(program, setting))
    if not is_pattern(program, barred):
        raise InvalidPattern(barred)
    found = all_states(turns)
    complete = [state for state in found if turns.ready(state) == []]
    if not is_list(states) or any([shows(turns.outcome(state), barred) for state in complete]):
        return False
    telling = Telling(turns)
    return _are_among([telling.state(state) for state in found], states)


def _are_among(told, states):
    """Tells whether all states that are told are in a list with items of any value."""
    # Most lists are as `states_at` tells them, which is seen sooner.
    if list(states[:len(told)]) == told:
        return True
    listed = {item: True for item in states if _can_be_told(item, _DEPTH_OF_STATES)}
    return all([state in listed for state in told])


def _can_be_told(value, depth):
    """Tells whether any value is a string, an integer, or a tuple of such, so that it can be looked up."""
    if isinstance(value, (str, int)):
        return True
    return isinstance(value, tuple) and depth > 0 and all([_can_be_told(item, depth - 1) for item in value])
