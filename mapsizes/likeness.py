"""Programs that are alike: those that have the same outcomes."""

from mapsizes.errors import InvalidInteger, InvalidProgram, InvalidSetting
from mapsizes.kinds import cases
from mapsizes.outcomes import Known, outcomes_by_case
from mapsizes.programs import Program, are_within_limits, check_program, different_places, with_places_of_facts
from mapsizes.settings import LEAST_LARGE_PAGE, are_too_many, is_page_choice


def _check_compared(one, other):
    check_program(one)
    check_program(other)
    places = with_places_of_facts(one.places() + other.places(), one.facts)
    if one.facts != other.facts or one.page != other.page or not are_within_limits(places, one.page):
        raise InvalidProgram(other)


def alike(one, other):
    """Returns None if two programs are alike, otherwise a setting, an outcome and the index of the one that has it."""
    _check_compared(one, other)
    known = Known()
    for setting in cases(different_places(one.places() + other.places()), one.facts, page=one.page):
        if one.allows(setting) and other.allows(setting):
            found = [known.at(one, setting), known.at(other, setting)]
            for index in (0, 1):
                alone = [outcome for outcome in found[index] if outcome not in found[1 - index]]
                if alone != []:
                    return setting, alone[0], index
    return None


def alike_at(one, other, setting):
    """Tells whether two programs have the same outcomes at a common setting."""
    _check_compared(one, other)
    if not one.allows(setting) or not other.allows(setting):
        raise InvalidSetting(setting)
    known = Known()
    return sorted(list(known.at(one, setting))) == sorted(list(known.at(other, setting)))


def with_page(program, page):
    """Returns a program with another page size."""
    check_program(program)
    if not is_page_choice(page):
        raise InvalidInteger(page)
    if are_too_many(program.unknowns(), page):
        raise InvalidProgram(program)
    return Program(program.hands(), first=program.first, facts=program.facts, page=page)


def same_pages(program):
    """Returns the page sizes that are not large and with which a program has the same outcomes as without one."""
    check_program(program)
    if are_too_many(program.unknowns(), 1):
        raise InvalidProgram(program)
    known = Known()
    wanted = sorted(list(outcomes_by_case(with_page(program, None), known)))
    pages = list(range(1, LEAST_LARGE_PAGE))
    return [page for page in pages if sorted(list(outcomes_by_case(with_page(program, page), known))) == wanted]
