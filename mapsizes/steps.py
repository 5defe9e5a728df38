"""Steps: what a hand does in one or several turns."""

from mapsizes.places import Place, is_mark, is_name, is_place

_FORMS = {
    "cut": ("place",),
    "write": ("place", "place", "mark"),
    "read": ("place",),
    "look": ("place",),
    "store": ("place", "mark"),
    "test": ("place",),
    "sync": ("place", "place"),
    "lock": ("name",),
    "unlock": ("name",),
}


def _fits(item, form):
    if form == "place":
        return is_place(item)
    return is_mark(item) if form == "mark" else is_name(item)


def is_step(value):
    """Tells whether any value is a step."""
    if not isinstance(value, tuple) or value == () or not isinstance(value[0], str):
        return False
    if value[0] not in _FORMS or len(value) != 1 + len(_FORMS[value[0]]):
        return False
    return all([_fits(item, form) for item, form in zip(value[1:], _FORMS[value[0]])])


def placed_step(step):
    """Returns a step with Place objects."""
    items = [Place.of(item) if form == "place" else item for item, form in zip(step[1:], _FORMS[step[0]])]
    return (step[0], *items)


def places_of_step(step):
    """Returns the places of a step that has Place objects, from left to right."""
    return [item for item in step[1:] if isinstance(item, Place)]
