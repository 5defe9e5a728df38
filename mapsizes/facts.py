"""Facts: rows about places, each of which a setting keeps or does not keep."""

from mapsizes.errors import InvalidFact, InvalidFacts, InvalidSetting
from mapsizes.places import Place, is_place, unknowns_of
from mapsizes.settings import MOST_UNKNOWNS, Setting, has_sizes

_PLACES = {"at_most": 2, "page": 1}


def is_fact(value):
    """Tells whether any value is a row of facts."""
    if not isinstance(value, tuple) or value == () or not isinstance(value[0], str):
        return False
    if value[0] not in _PLACES or len(value) != 1 + _PLACES[value[0]]:
        return False
    return all([is_place(item) for item in value[1:]])


def placed_row(row):
    """Returns a row of facts with Place objects."""
    return (row[0], *[Place.of(item) for item in row[1:]])


def places_of_rows(rows):
    """Returns the places of rows that have Place objects, in their order."""
    return [place for row in rows for place in row[1:]]


def keeps(setting, row):
    """Tells whether a setting that has all sizes keeps a row."""
    if row[0] == "page":
        return setting[row[1]] % setting.page == 0
    return setting[row[1]] <= setting[row[2]]


class Facts:
    """Rows that a setting keeps or does not keep. They never change."""

    def __init__(self, *rows):
        for row in rows:
            if not is_fact(row):
                raise InvalidFact(row)
        placed = [placed_row(row) for row in rows]
        unknowns = unknowns_of(places_of_rows(placed))
        if len(unknowns) > MOST_UNKNOWNS:
            raise InvalidFacts(rows)
        self._rows = placed
        self._unknowns = unknowns

    def rows(self):
        """Returns a new list of the rows, with Place objects."""
        return list(self._rows)

    def unknowns(self):
        """Returns the ascending list of the unknowns."""
        return list(self._unknowns)

    def holds(self, setting):
        """Tells whether a setting keeps all rows."""
        if not isinstance(setting, Setting) or not has_sizes(setting, self._unknowns):
            raise InvalidSetting(setting)
        for row in self._rows:
            if not keeps(setting, row):
                return False
        return True

    def __and__(self, other):
        if not isinstance(other, Facts):
            raise InvalidFacts(other)
        rows = self._rows + other._rows
        if len(unknowns_of(places_of_rows(rows))) > MOST_UNKNOWNS:
            raise InvalidFacts(other)
        return Facts(*rows)

    def __len__(self):
        return len(self._rows)

    def __eq__(self, other):
        return isinstance(other, Facts) and self._rows == other._rows

    def __repr__(self):
        return f"Facts{tuple(self._rows)!r}"
