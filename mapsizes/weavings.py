"""All weavings of a program at one setting: the orders of turns, and what can come of them."""

from mapsizes.errors import InvalidPattern, InvalidProgram
from mapsizes.places import is_integer, is_list
from mapsizes.plans import Plan, after_turn, first_state, outcome_of, ready_hands, told_state
from mapsizes.programs import Program

# So deep are the tuples of a state nested: all of it, its hands, one of them, and the answers of that one.
_DEPTH_OF_STATES = 4


def weavings(program, setting):
    """Yields all complete weavings, new lists, in ascending order."""
    plan = Plan(program, setting)
    left = [([], first_state(plan))]
    while left != []:
        weaving, state = left.pop()
        ready = ready_hands(plan, state)
        if ready == []:
            yield weaving
        # The least hand comes last, because the last one is taken out first.
        for hand in ready[::-1]:
            left.append(([*weaving, hand], after_turn(plan, state, hand)[0]))


def replay(program, setting, outcome, weaving):
    """Tells whether any value is a complete weaving that has an outcome."""
    plan = Plan(program, setting)
    if not is_list(weaving):
        return False
    state = first_state(plan)
    for hand in weaving:
        if not is_integer(hand, 0, len(plan.tasks) - 1) or hand not in ready_hands(plan, state):
            return False
        state = after_turn(plan, state, hand)[0]
    return ready_hands(plan, state) == [] and outcome_of(plan, state) == outcome


def _one_turn_on(plan, level):
    """Returns the states one turn behind those of a level, and the complete ones of the level.

    Both are dicts from states to the least weavings that lead to them, in the order of these. All weavings that lead to
    a state have as many turns, so none of the states was on an earlier level; and as the states of the level come in
    the order of their least weavings, the first weaving to each one behind them is its least.
    """
    behind, complete = {}, {}
    for state, weaving in level.items():
        ready = ready_hands(plan, state)
        if ready == []:
            complete[state] = weaving
        for hand in ready:
            after = after_turn(plan, state, hand)[0]
            if after not in behind:
                behind[after] = (*weaving, hand)
    return behind, complete


def outcomes_at(program, setting):
    """Returns each outcome of a complete weaving, ascending, with the least complete weaving that has it."""
    plan = Plan(program, setting, answers_only=True)
    found = {}
    level = {first_state(plan): ()}
    while level != {}:
        level, complete = _one_turn_on(plan, level)
        for state, weaving in complete.items():
            found.setdefault(outcome_of(plan, state), list(weaving))
    return [(outcome, found[outcome]) for outcome in sorted(list(found))]


def states_at(program, setting):
    """Returns the states after all weavings, each once, in the order of the least weavings that lead to them."""
    plan = Plan(program, setting)
    told = []
    level = {first_state(plan): ()}
    while level != {}:
        told.extend([told_state(plan, state) for state in level])
        level, _ = _one_turn_on(plan, level)
    return told


def shows(outcome, pattern):
    """Tells whether an outcome has all the answers of a pattern."""
    return all([outcome[hand][step] == answer for hand, step, answer in pattern])


def is_pattern(program, value):
    """Tells whether any value is a list of (hand, step, answer) with steps of the program."""
    if not isinstance(program, Program):
        raise InvalidProgram(program)
    hands = program.hands()
    return is_list(value) and all([_is_row_of_pattern(hands, item) for item in value])


def _is_row_of_pattern(hands, value):
    if not isinstance(value, tuple) or len(value) != 3 or not isinstance(value[2], str):
        return False
    hand, step, _ = value
    return is_integer(hand, 0, len(hands) - 1) and is_integer(step, 0, len(hands[hand]) - 1)


def is_closed(program, setting, states, *, barred):
    """Tells whether any value is a list of all states, and no complete weaving shows the pattern that is barred."""
    plan = Plan(program, setting)
    if not is_pattern(program, barred):
        raise InvalidPattern(barred)
    listed = _states_listed(states)
    level = {first_state(plan): ()}
    while level != {}:
        if not all([told_state(plan, state) in listed for state in level]):
            return False
        level, complete = _one_turn_on(plan, level)
        if any([shows(outcome_of(plan, state), barred) for state in complete]):
            return False
    return True


def _states_listed(value):
    """Returns a dict of those items of any value that can be states."""
    if not is_list(value):
        return {}
    return {item: True for item in value if _can_be_told(item, _DEPTH_OF_STATES)}


def _can_be_told(value, depth):
    """Tells whether any value is a string, an integer, or a tuple of such, so that it can be looked up."""
    if isinstance(value, (str, int)):
        return True
    return isinstance(value, tuple) and depth > 0 and all([_can_be_told(item, depth - 1) for item in value])
