"""Guards: tests, syncs and locks that are put into a program, and the fewest of them that bar answers."""

from mapsizes.errors import (
    InvalidGuard, InvalidGuards, InvalidHand, InvalidInteger, InvalidPattern, InvalidProgram, InvalidSetting,
    InvalidWeaving,
)
from mapsizes.machine import run
from mapsizes.outcomes import can
from mapsizes.places import is_integer, is_list, is_name, is_place
from mapsizes.programs import Program, check_program
from mapsizes.weavings import is_pattern, shows

_LENGTHS = {"test": 4, "sync": 5, "lock": 5}
_MOST_CANDIDATES = 8
_GREATEST_MOST = 2


def is_guard(program, value):
    """Tells whether any value is a guard that fits the hands of a program."""
    check_program(program)
    return _fits(program.hands(), value)


def _fits(hands, value):
    if not isinstance(value, tuple) or value == () or not isinstance(value[0], str):
        return False
    if value[0] not in _LENGTHS or len(value) != _LENGTHS[value[0]]:
        return False
    word, hand, at, *items = value
    if not is_integer(hand, 0, len(hands) - 1):
        return False
    count = len(hands[hand])
    if word == "lock":
        upto, name = items
        return is_integer(at, 0, count - 1) and is_integer(upto, at, count - 1) and is_name(name)
    return is_integer(at, 0, count) and all([is_place(item) for item in items])


def _check_guards(program, guards):
    check_program(program)
    if not is_list(guards):
        raise InvalidGuards(guards)
    _check_each(program, guards)


def _check_each(program, guards):
    hands = program.hands()
    for item in guards:
        if not _fits(hands, item):
            raise InvalidGuard(item)


def _steps_ahead(guards, hand, count):
    """Returns for each of so many steps of a hand the steps that guards put ahead of it, and last those behind all."""
    ahead = [[] for _ in range(count + 1)]
    own = [guard for guard in guards if guard[1] == hand]
    for guard in own:
        if guard[0] == "lock":
            ahead[guard[3] + 1].append(("unlock", guard[4]))
    for guard in own:
        ahead[guard[2]].append(("lock", guard[4]) if guard[0] == "lock" else (guard[0], *guard[3:]))
    return ahead


def _guarded_hand(steps, ahead):
    found = []
    for index, step in enumerate(steps):
        found.extend([*ahead[index], step])
    return found + ahead[-1]


def guarded(program, guards):
    """Returns a program with guards."""
    _check_guards(program, guards)
    hands = [
        _guarded_hand(steps, _steps_ahead(guards, hand, len(steps))) for hand, steps in enumerate(program.hands())
    ]
    return Program(hands, first=program.first, facts=program.facts, page=program.page)


def _index_behind(program, guards, hand, step):
    ahead = _steps_ahead(guards, hand, len(program.hands()[hand]))
    return step + sum([len(steps) for steps in ahead[:step + 1]])


def step_behind(program, guards, hand, step):
    """Returns the index that a step of a program has in the guarded one."""
    _check_guards(program, guards)
    program.step(hand, step)
    return _index_behind(program, guards, hand, step)


def pattern_behind(program, guards, pattern):
    """Returns the pattern of the guarded program that asks the same of the same steps."""
    _check_guards(program, guards)
    if not is_pattern(program, pattern):
        raise InvalidPattern(pattern)
    return [(hand, _index_behind(program, guards, hand, step), answer) for hand, step, answer in pattern]


def bars(program, guards, pattern):
    """Tells whether no outcome of the guarded program shows a pattern."""
    behind = pattern_behind(program, guards, pattern)
    return can(guarded(program, guards), behind) is None


def _check_question(program, pattern, candidates, most):
    if not is_pattern(program, pattern):
        raise InvalidPattern(pattern)
    if not is_list(candidates) or len(candidates) > _MOST_CANDIDATES:
        raise InvalidGuards(candidates)
    _check_each(program, candidates)
    if not is_integer(most, 0, _GREATEST_MOST):
        raise InvalidInteger(most)


def _choices(candidates, most):
    """Returns all choices of at most so many candidates, those of fewer first, then by their indexes."""
    found, level = [], [[]]
    for _ in range(most + 1):
        found.extend(level)
        level = [[*chosen, at] for chosen in level for at in range(max([-1, *chosen]) + 1, len(candidates))]
    return [[candidates[at] for at in chosen] for chosen in found]


def _with_choice(program, chosen):
    """Returns the program with a choice of guards, None if they cannot be put into it."""
    try:
        return guarded(program, chosen)
    except (InvalidHand, InvalidProgram):
        return None


def fewest_guards(program, pattern, candidates, *, most=2):
    """Returns the first choice of the fewest candidates that bar a pattern, and runs that show that fewer do not."""
    _check_question(program, pattern, candidates, most)
    runs = []
    for chosen in _choices(candidates, most):
        made = _with_choice(program, chosen)
        if made is not None:
            found = can(made, pattern_behind(program, chosen, pattern))
            if found is None:
                return "guards", chosen, [row for row in runs if len(row[0]) < len(chosen)]
            runs.append((chosen, *found))
    return "none", [], runs


def check_fewest(program, pattern, candidates, result, *, most=2):
    """Tells whether any value shows which choice of the fewest candidates bars a pattern, or that none does."""
    _check_question(program, pattern, candidates, most)
    if not isinstance(result, tuple) or len(result) != 3:
        return False
    word, told, runs = result
    if not is_list(told) or not is_list(runs):
        return False
    choices = _choices(candidates, most)
    if not all([_is_run(program, pattern, choices, row) for row in runs]):
        return False
    if word == "none" and len(told) == 0:
        return _are_shown(program, choices, runs)
    if word != "guards" or not _is_barring(program, pattern, _choice_told(choices, told)):
        return False
    return _are_shown(program, [chosen for chosen in choices if len(chosen) < len(told)], runs)


def _choice_told(choices, told):
    """Returns the choice, as it was passed, that equals a list of any values, None if there is none."""
    found = [chosen for chosen in choices if chosen == list(told)]
    return found[0] if found != [] else None


def _is_barring(program, pattern, chosen):
    """Tells whether a choice, if there is one, can be put into the program and bars a pattern."""
    if chosen is None or _with_choice(program, chosen) is None:
        return False
    return bars(program, chosen, pattern)


def _are_shown(program, choices, runs):
    """Tells whether runs are told for all of some choices that can be put into the program."""
    told = [list(row[0]) for row in runs]
    return all([chosen in told or _with_choice(program, chosen) is None for chosen in choices])


def _is_run(program, pattern, choices, value):
    """Tells whether any value is a choice, a setting of the program that it guards, and a run that shows a pattern."""
    if not isinstance(value, tuple) or len(value) != 3:
        return False
    told, setting, weaving = value
    chosen = _choice_told(choices, told) if is_list(told) else None
    made = _with_choice(program, chosen) if chosen is not None else None
    if made is None:
        return False
    try:
        machine = run(made, setting, weaving)
    except (InvalidSetting, InvalidWeaving):
        return False
    return machine.ready() == [] and shows(machine.outcome(), pattern_behind(program, chosen, pattern))
