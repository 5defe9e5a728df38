"""Kinds: what settings have in common, and the small cases to one of which each setting is alike."""

from mapsizes.errors import InvalidFacts, InvalidInteger, InvalidPlace, InvalidPlaces, InvalidSetting
from mapsizes.facts import Facts, places_of_rows
from mapsizes.places import Place, is_list, is_place, unknowns_of
from mapsizes.settings import LEAST_LARGE_PAGE, Setting, are_too_many, has_page, has_sizes, is_page_choice

_MOST_PLACES = 14
_GREATEST_NUMBER = 3
# A place and the integer ahead of it are at most this far from the unknown.
_REACH = 4

# Two sizes at the page size 32. Sizes up to 6 apart have places that cross, greater ones do not; the lesser one
# stands at the begin of the file, in the midst of a page, or not further from a page end than both together reach.
_NEAR_LOWS = (
    0, 1, 2, 3, 4, 5, 6, 7, 23, 24, 25, 26, 27, 28, 29, 30, 31, 32, 33, 34, 35, 36,
    55, 56, 57, 58, 59, 60, 61, 62, 63, 64, 65, 66, 67,
)
_GREATEST_NEAR = 6
# Further apart, each one alone stands at a page end, or in the midst of a page.
_FAR_LOWS = (0, 1, 2, 3, 4, 5, 6, 7, 29, 30, 31, 32, 33, 34, 35, 36, 61, 62, 63, 64, 65, 66, 67)
_FAR_HIGHS = (
    20, 29, 30, 31, 32, 33, 34, 35, 52, 61, 62, 63, 64, 65, 66, 67, 84, 93, 94, 95, 96, 97, 98, 99,
    116, 125, 126, 127, 128, 129, 130, 131,
)
# From one page end to the one behind the next, where no page is of both any more: more is drawn nearer.
_GREATEST_FAR = 70


def _ranks(numbers):
    """Returns for each number how many lesser ones there are, equal ones counted once."""
    order = {number: rank for rank, number in enumerate(sorted(set(numbers)))}
    return tuple([order[number] for number in numbers])


def _kind(values, page):
    """Returns what is equal for the values of places and 0 exactly if they lie alike, as [31] compares them."""
    # The ranks of the pages say no more than [31] compares. Two integers that lie ahead of places p and q are in
    # one page exactly if p and q are equal, or if p or q is in this page with both; and which of two pages comes
    # first shows in the order of p and q.
    pages = [value // page for value in values]
    pages_ahead = [(value - 1) // page for value in values]
    return _ranks(values), _ranks(pages + pages_ahead)


def kind_of(setting, places):
    """Returns what is equal for two settings exactly if they are of one kind for these Place objects."""
    return _kind([setting[place] for place in places] + [0], setting.page)


def _lone_sizes(page):
    """Returns sizes of one unknown, of which one is of the kind of each greater one."""
    # Where the pages of the numbers end, the unknown's own pages begin; from there on all repeats in each page.
    end = (_GREATEST_NUMBER // page + 1) * page
    return list(range(end + _REACH + page))


def _size_pairs():
    """Returns ascending pairs of sizes, of which one is of the kind of each other one at each large page size."""
    near = [(low, low + gap) for low in _NEAR_LOWS for gap in range(_GREATEST_NEAR + 1)]
    far = [(low, high) for low in _FAR_LOWS for high in _FAR_HIGHS if _GREATEST_NEAR < high - low <= _GREATEST_FAR]
    return near + far


def _page_size(page):
    return LEAST_LARGE_PAGE if page is None else page


def _samples(unknowns, page):
    """Returns sizes for the unknowns, in their order: at least one of each kind, whatever the places of these."""
    if unknowns == []:
        return [()]
    if len(unknowns) == 1:
        return [(lone,) for lone in _lone_sizes(_page_size(page))]
    pairs = _size_pairs()
    return pairs + [(high, low) for low, high in pairs if low != high]


def _sample_setting(unknowns, sizes, page):
    return Setting({name: size for name, size in zip(unknowns, sizes)}, page=_page_size(page))


def _kinds_of_samples(unknowns, places, page):
    """Returns a dict from all kinds for these places to the first sample of each."""
    # Numbers count from 0, which stands behind the sizes.
    spots = [(unknowns.index(place.base) if place.base != "" else -1, place.shift) for place in places]
    size, found = _page_size(page), {}
    for sizes in _samples(unknowns, page):
        starts = (*sizes, 0)
        values = [starts[at] + shift for at, shift in spots]
        found.setdefault(_kind([*values, 0], size), sizes)
    return found


def _all_places(places, facts):
    """Returns the different places of a list and of the facts, or of the list alone if there are none."""
    rows = [] if facts is None else facts.rows()
    found = {str(place): place for place in places + places_of_rows(rows)}
    return list(found.values())


def _check_question(places, facts, page, told):
    """Raises what is wrong with facts and a page size, and InvalidPlaces(told) if there are too many unknowns."""
    if facts is not None and not isinstance(facts, Facts):
        raise InvalidFacts(facts)
    if not is_page_choice(page):
        raise InvalidInteger(page)
    if are_too_many(unknowns_of(_all_places(places, facts)), page):
        raise InvalidPlaces(told)


def _placed(places):
    """Returns the list of the Place objects of a list of places."""
    if not is_list(places) or len(places) > _MOST_PLACES or not all([is_place(item) for item in places]):
        raise InvalidPlaces(places)
    return [Place.of(item) for item in places]


def settings_keeping(places, facts, page):
    """Returns settings that keep the facts, at least one of each kind; `places` is a list of Place objects."""
    _check_question(places, facts, page, places)
    unknowns = unknowns_of(_all_places(places, facts))
    settings = [_sample_setting(unknowns, sizes, page) for sizes in _samples(unknowns, page)]
    return settings if facts is None else [setting for setting in settings if facts.holds(setting)]


def same_kind(one, other, places):
    """Tells whether two settings are of one kind for a list of places."""
    for setting in (one, other):
        if not isinstance(setting, Setting):
            raise InvalidSetting(setting)
    placed = _placed(places)
    for item in places:
        unknowns = unknowns_of([Place.of(item)])
        if not has_sizes(one, unknowns) or not has_sizes(other, unknowns):
            raise InvalidPlace(item)
    return kind_of(one, placed) == kind_of(other, placed)


def cases(places, facts=None, *, page=None):
    """Returns small settings that keep the facts, one of each kind for the places and those of the facts."""
    placed = _placed(places)
    _check_question(placed, facts, page, places)
    compared = _all_places(placed, facts)
    unknowns = unknowns_of(compared)
    found = list(_kinds_of_samples(unknowns, compared, page).values())
    settings = [_sample_setting(unknowns, sizes, page) for sizes in found]
    return [setting for setting in settings if facts is None or facts.holds(setting)]


def case_of(setting, places, facts=None, *, page=None):
    """Returns the case of the kind of a setting."""
    if not isinstance(setting, Setting):
        raise InvalidSetting(setting)
    placed = _placed(places)
    _check_question(placed, facts, page, places)
    compared = _all_places(placed, facts)
    unknowns = unknowns_of(compared)
    if not has_sizes(setting, unknowns) or not has_page(setting, page):
        raise InvalidSetting(setting)
    if facts is not None and not facts.holds(setting):
        raise InvalidSetting(setting)
    # The first sample of a kind is its case, in `cases` too; it keeps the facts, because their places are compared.
    sizes = _kinds_of_samples(unknowns, compared, page)[kind_of(setting, compared)]
    return _sample_setting(unknowns, sizes, page)
