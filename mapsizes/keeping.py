"""What a power cut can leave, stores whose bytes never come into the file, and what a sync surely saves."""

from mapsizes.errors import InvalidPlace, InvalidStep, InvalidText
from mapsizes.outcomes import cases_of
from mapsizes.places import Place, is_mark
from mapsizes.plans import plan_of_place, plan_of_sizes
from mapsizes.programs import check_program
from mapsizes.searches import Reach
from mapsizes.turns import Turns

_OTHER_BYTES = ("old", "zero", "end")


def _text_of(program, place):
    """Returns the text of a place of the program."""
    text = str(Place.of(place))
    if text not in [str(known) for known in program.places()]:
        raise InvalidPlace(place)
    return text


def _unlike(plans):
    """Returns the first ones of (case, plan) of which no two plans are carried out alike."""
    found = {}
    for case, plan in plans:
        found.setdefault(plan.signature(), (case, plan))
    return list(found.values())


def _first_weavings(reaches):
    """Returns a dict from all results of (case, reach) to the first case and the least complete weaving there."""
    found = {}
    for case, reach in reaches:
        for result in reach.results():
            if result not in found:
                found[result] = (case, reach.least(result))
    return found


def _reach_of_kept(plan, text):
    """Returns the reach of what can be kept at a place."""
    turns, slot = Turns(plan, noted=[]), plan.slots[text]
    return Reach(turns, lambda state: turns.kept_at(state, slot))


def _reach_of_notes(plan, hand, step):
    """Returns the reach of what is noted of a step."""
    turns = Turns(plan, noted=[(hand, step)])
    return Reach(turns, lambda state: turns.note(state, hand, step))


def _plans_of_place(program, settings, text):
    return _unlike([(case, plan_of_place(program, case, text)) for case in settings])


def _kept_by_case(program, text):
    """Returns a dict from all tuples that can be kept at a place to a case and the least complete weaving there."""
    plans = _plans_of_place(program, cases_of(program), text)
    return _first_weavings([(case, _reach_of_kept(plan, text)) for case, plan in plans])


def kept_lists(program, place):
    """Returns all lists that can be kept at a place, each as a tuple with a case and the least weaving there."""
    check_program(program)
    found = _kept_by_case(program, _text_of(program, place))
    return [(kept, *found[kept]) for kept in sorted(list(found))]


def can_keep(program, place, byte):
    """Returns a case and a complete weaving after which a byte can be left at a place, None if it never can."""
    check_program(program)
    text = _text_of(program, place)
    if not is_mark(byte) and byte not in _OTHER_BYTES:
        raise InvalidText(byte)
    for kept, found in _kept_by_case(program, text).items():
        if byte in kept:
            return found
    return None


def sure_byte(program, place):
    """Returns the byte that alone is left at a place after each complete weaving, None if there is none."""
    found = kept_lists(program, place)
    if len(found) != 1:
        return None
    kept, _, _ = found[0]
    return kept[0] if len(kept) == 1 and kept[0] != "end" else None


def _check_word(program, hand, step, word):
    """Raises what is wrong with the indexes of a step that must have this word."""
    check_program(program)
    found = program.step(hand, step)
    if found[0] != word:
        raise InvalidStep(found)


def losses(program, hand, step):
    """Returns what can become of a store, each with a case and a complete weaving."""
    _check_word(program, hand, step, "store")
    plans = _unlike([(case, plan_of_sizes(program, case)) for case in cases_of(program)])
    return _first_weavings([(case, _reach_of_notes(plan, hand, step)) for case, plan in plans])


def saved(program, hand, step):
    """Returns the places of the program that a sync surely saves, or finds outside of the file."""
    _check_word(program, hand, step, "sync")
    settings = cases_of(program)
    return [place for place in program.places() if _is_saved(program, settings, hand, step, str(place))]


def _is_saved(program, settings, hand, step, text):
    plans = _plans_of_place(program, settings, text)
    return not any(["unsure" in _reach_of_notes(plan, hand, step).results() for _, plan in plans])
