"""Settings: a size for each unknown, and a page size."""

from mapsizes.errors import InvalidInteger, InvalidPlace, InvalidSetting
from mapsizes.places import Place, is_integer, is_integer_from, is_name

MOST_UNKNOWNS = 2
LEAST_LARGE_PAGE = 32


def is_page_choice(value):
    """Tells whether any value is a page size that is not large, or None, which stands for all large ones."""
    return value is None or is_integer(value, 1, LEAST_LARGE_PAGE - 1)


def has_page(setting, page):
    """Tells whether a setting has the page size that is chosen, or a large one for None."""
    return setting.page >= LEAST_LARGE_PAGE if page is None else setting.page == page


def has_sizes(setting, unknowns):
    """Tells whether a setting has sizes for all of these unknowns."""
    return all([name in setting for name in unknowns])


def are_too_many(unknowns, page):
    """Tells whether there are more unknowns than a choice of a page size leaves room for."""
    return len(unknowns) > (MOST_UNKNOWNS if page is None else 1)


def _are_sizes(value):
    if not isinstance(value, dict) or len(value) > MOST_UNKNOWNS:
        return False
    return all([is_name(name) and is_integer_from(size, 0) for name, size in value.items()])


class Setting:
    """A setting gives each of its unknowns a size, and has a page size. It never changes."""

    def __init__(self, sizes, *, page=32):
        if not _are_sizes(sizes):
            raise InvalidSetting(sizes)
        if not is_integer_from(page, 1):
            raise InvalidInteger(page)
        self._sizes = dict(sizes)
        self._page = page

    def sizes(self):
        """Returns a new dict of the sizes by their unknowns."""
        return dict(self._sizes)

    @property
    def page(self):
        """The page size."""
        return self._page

    def __getitem__(self, at):
        place = Place.of(at)
        if place.base == "":
            return place.shift
        if place.base not in self._sizes:
            raise InvalidPlace(at)
        return self._sizes[place.base] + place.shift

    def __iter__(self):
        # Without this Python would ask for setting[0], setting[1] and so on, which are values of numbers.
        raise TypeError("a setting has no items to go through")

    def __contains__(self, x):
        return isinstance(x, str) and x in self._sizes

    def same_page(self, place, other):
        """Tells whether the values of two places lie in one page."""
        return self[place] // self._page == self[other] // self._page

    def __eq__(self, other):
        return isinstance(other, Setting) and self._sizes == other._sizes and self._page == other._page

    def __repr__(self):
        return f"Setting({self._sizes!r}, page={self._page})"
