"""What can come of a program at all of its settings."""

from mapsizes.errors import InvalidPattern
from mapsizes.kinds import case_of, cases, kind_of
from mapsizes.places import is_list
from mapsizes.plans import plan_of_answers
from mapsizes.programs import check_program, check_setting, with_places_of_facts
from mapsizes.searches import least_weavings
from mapsizes.turns import Turns
from mapsizes.weavings import is_closed, is_pattern, is_step_at, shows, states_at


class Known:
    """The outcomes of some hands at settings. Settings at which the hands have the same turns are searched once."""

    def __init__(self):
        self._found = {}

    def at(self, program, setting):
        """Returns a dict from the outcomes at a setting to the least weavings, tuples, that have them."""
        plan = plan_of_answers(program, setting)
        key = plan.signature()
        if key not in self._found:
            self._found[key] = least_weavings(Turns(plan))
        return self._found[key]


def cases_of(program):
    """Returns the cases of a program: settings of it with small sizes, one of each kind."""
    check_program(program)
    found = cases(program.places(), program.facts, page=program.page)
    return [setting for setting in found if program.allows(setting)]


def case_for(program, setting):
    """Returns the case of the kind of a setting of the program."""
    check_program(program)
    check_setting(program, setting)
    return case_of(setting, program.places(), program.facts, page=program.page)


def outcomes_by_case(program, known):
    """Returns a dict from all outcomes of a program to the first cases and the least weavings there that have them."""
    found = {}
    for case in cases_of(program):
        for outcome, weaving in known.at(program, case).items():
            if outcome not in found:
                found[outcome] = (case, weaving)
    return found


def outcomes(program):
    """Returns all outcomes of a program, ascending, each with a case and the least weaving there that has it."""
    found = outcomes_by_case(program, Known())
    return [(outcome, found[outcome][0], list(found[outcome][1])) for outcome in sorted(list(found))]


def _check_pattern(program, pattern):
    if not is_pattern(program, pattern):
        raise InvalidPattern(pattern)


def _shown_at(program, pattern, known, case):
    """Returns a weaving whose outcome at a case shows a pattern, None if there is none."""
    for outcome, weaving in known.at(program, case).items():
        if shows(outcome, pattern):
            return list(weaving)
    return None


def can(program, pattern):
    """Returns a case and a complete weaving whose outcome there shows a pattern, None if there is none."""
    _check_pattern(program, pattern)
    known = Known()
    for case in cases_of(program):
        weaving = _shown_at(program, pattern, known, case)
        if weaving is not None:
            return case, weaving
    return None


def where(program, pattern):
    """Returns the cases at which an outcome shows a pattern."""
    _check_pattern(program, pattern)
    known = Known()
    return [case for case in cases_of(program) if _shown_at(program, pattern, known, case) is not None]


def answers(program, hand, step):
    """Returns the ascending list of all answers of a step."""
    check_program(program)
    program.step(hand, step)
    return [found[0] for found in together(program, [(hand, step)])]


def together(program, asked):
    """Returns the ascending list of the tuples of answers that some steps have together."""
    check_program(program)
    hands = program.hands()
    if not is_list(asked) or not all([_is_index_pair(hands, item) for item in asked]):
        raise InvalidPattern(asked)
    found = list(outcomes_by_case(program, Known()))
    return sorted({tuple([outcome[hand][step] for hand, step in asked]) for outcome in found})


def _is_index_pair(hands, value):
    return isinstance(value, tuple) and len(value) == 2 and is_step_at(hands, value)


def never(program, pattern):
    """Returns for each case a list of states that shows that a pattern never comes, None if it comes."""
    if can(program, pattern) is not None:
        return None
    return [(case, states_at(program, case)) for case in cases_of(program)]


def check_never(program, pattern, papers):
    """Tells whether any value shows that a pattern never comes, at each setting of the program."""
    _check_pattern(program, pattern)
    if not is_list(papers) or not all([_is_paper(program, pattern, paper) for paper in papers]):
        return False
    places = with_places_of_facts(program.places(), program.facts)
    covered = {kind_of(setting, places): True for setting, _ in papers}
    return all([kind_of(case, places) in covered for case in cases_of(program)])


def _is_paper(program, pattern, value):
    if not isinstance(value, tuple) or len(value) != 2:
        return False
    setting, states = value
    return program.allows(setting) and is_closed(program, setting, states, barred=pattern)
