"""What facts decide: how places can lie to each other, and which rows follow."""

from mapsizes.errors import InvalidFact, InvalidFacts, InvalidInteger, InvalidName
from mapsizes.facts import Facts, is_fact, keeps, placed_row
from mapsizes.kinds import settings_keeping
from mapsizes.places import Place
from mapsizes.settings import is_page_choice

_SIGNS_OF = {
    "<": ("<",), "<=": ("<", "="), "=": ("=",), ">=": ("=", ">"), ">": (">",), "<>": ("<", ">"),
}


def _sign(setting, left, right):
    difference = setting[left] - setting[right]
    if difference == 0:
        return "="
    return "<" if difference < 0 else ">"


def orders(left, right, facts=None, *, page=None):
    """Returns a dict of the signs with which two places can lie, each with a setting in which they lie so."""
    one, other = Place.of(left), Place.of(right)
    found = {}
    for setting in settings_keeping([one, other], facts, page):
        found.setdefault(_sign(setting, one, other), setting)
    return found


def always(relation, left, right, facts=None, *, page=None):
    """Tells whether a relation of two places holds in all settings that keep the facts."""
    if not isinstance(relation, str) or relation not in _SIGNS_OF:
        raise InvalidName(relation)
    return all([sign in _SIGNS_OF[relation] for sign in orders(left, right, facts, page=page)])


def pages_apart(left, right, facts=None, *, page=None):
    """Returns a dict that tells whether two places can lie in one page and in two, each with such a setting."""
    one, other = Place.of(left), Place.of(right)
    found = {}
    for setting in settings_keeping([one, other], facts, page):
        found.setdefault("same" if setting.same_page(one, other) else "apart", setting)
    return found


def follows(fact, facts, *, page=None):
    """Tells whether all settings that keep the facts keep a row as well."""
    if not is_fact(fact):
        raise InvalidFact(fact)
    row = placed_row(fact)
    return all([keeps(setting, row) for setting in settings_keeping(list(row[1:]), facts, page)])


def implied(one, other, *, page=None):
    """Tells whether each row of the other facts follows from the first ones."""
    for facts in (one, other):
        if not isinstance(facts, Facts):
            raise InvalidFacts(facts)
    if not is_page_choice(page):
        raise InvalidInteger(page)
    # All rows are asked, because a later row can raise where an earlier one does not follow.
    return all([follows(row, one, page=page) for row in other.rows()])
