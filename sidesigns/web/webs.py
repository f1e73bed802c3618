"""Webs of ways between places."""

from sidesigns.errors import InvalidWeb
from sidesigns.integers import are_integers, is_between
from sidesigns.papers import is_told
from sidesigns.region.counting import active_counts_of
from sidesigns.rows.codes import joined_masks
from sidesigns.rows.rows import check_things
from sidesigns.system.checks import check_thing
from sidesigns.system.ranks import sorted_lots
from sidesigns.system.systems import System
from sidesigns.table.tables import Table
from sidesigns.things import are_things

MAX_PLACES = 8
MAX_WAYS = 9
MAX_AMOUNT = 100


def _check_web(places, ways):
    if not is_between(places, 0, MAX_PLACES):
        raise InvalidWeb("not a number of places")
    if not isinstance(ways, tuple) or len(ways) > MAX_WAYS:
        raise InvalidWeb("not a tuple of at most nine ways")
    if not all([is_way(way, places) for way in ways]):
        raise InvalidWeb("not a pair of places")


def is_way(value, places):
    """Whether the value is a pair of two of so many places."""
    return isinstance(value, tuple) and len(value) == 2 and are_things(value, places)


def _system_of_ways(places, ways):
    """The system whose cuts tell the ways by differences of integers at the places."""
    rows = [tuple([_end_at(way, place) for way in ways]) for place in range(places)]
    return System.of_table(Table(len(ways), tuple(rows)))


def _end_at(way, place):
    """1 if the way leads to a place, -1 if it leads from it, 0 if it does neither or both."""
    first, last = way
    return (1 if last == place else 0) - (1 if first == place else 0)


def _plus_rows(lot):
    """The ascending list of the rows without "-"."""
    return [row for row in lot.rows if "-" not in row]


class Web:
    """A web of ways, which are its things."""

    def __init__(self, places, ways):
        _check_web(places, ways)
        self._places = places
        self._ways = ways
        self._system = _system_of_ways(places, ways)

    @property
    def places(self):
        """The number of places."""
        return self._places

    @property
    def ways(self):
        """The tuple of the ways."""
        return self._ways

    @property
    def system(self):
        """The system with the rounds of the web."""
        return self._system

    def pieces(self):
        """The greatest lots of places that hang together, ascending."""
        masks = [1 << place for place in range(self._places)]
        ties = [1 << first | 1 << last for first, last in self._ways]
        return tuple(sorted_lots(joined_masks(masks + ties)))

    def turned_ways(self, things):
        """The web in which some ways are turned."""
        check_things(things, len(self._ways))
        ways = [(last, first) if at in things else (first, last) for at, (first, last) in enumerate(self._ways)]
        return Web(self._places, tuple(ways))

    def way_paper(self, way):
        """The least round without "-" that has a way, or the least such cut."""
        check_thing(way, len(self._ways))
        for word, lot in (("round", self._system.rounds), ("cut", self._system.cuts)):
            for row in _plus_rows(lot):
                if row[way] == "+":
                    return (word, row)
        return None

    def is_way_paper(self, way, value):
        """Whether the value tells a round or a cut without "-" that has a way."""
        check_thing(way, len(self._ways))
        return (self._is_plus_round(value) or self._is_plus_cut(value)) and value[1][way] == "+"

    def _is_plus_round(self, value):
        """Whether the value tells a round without "-"."""
        return is_told(value, "round", 2) and value[1] in self._system.rounds and "-" not in value[1]

    def _is_plus_cut(self, value):
        """Whether the value tells a cut without "-"."""
        return is_told(value, "cut", 2) and value[1] in self._system.cuts and "-" not in value[1]

    def ringless_paper(self):
        """How many ways the longest walks to the places have, or the least round without "-"."""
        rounds = _plus_rows(self._system.rounds)
        if rounds != []:
            return ("round", rounds[0])
        levels = [0] * self._places
        # No walk along ways comes to a place twice.
        for _ in range(self._places):
            for first, last in self._ways:
                levels[last] = max(levels[last], levels[first] + 1)
        return ("levels", tuple(levels))

    def is_ringless_paper(self, value):
        """Whether the value tells integers that rise along all ways, or a round without "-"."""
        if is_told(value, "levels", 2) and are_integers(value[1], self._places):
            return all([value[1][first] < value[1][last] for first, last in self._ways])
        return self._is_plus_round(value)

    def around_paper(self):
        """Amounts for the ways that go all around, or the least cut without "-"."""
        cuts = _plus_rows(self._system.cuts)
        if cuts != []:
            return ("cut", cuts[0])
        # One round for each way: so no amount is greater than the number of ways.
        rounds = [self.way_paper(way)[1] for way in range(len(self._ways))]
        amounts = [len([row for row in rounds if row[way] == "+"]) for way in range(len(self._ways))]
        return ("amounts", tuple(amounts))

    def is_around_paper(self, value):
        """Whether the value tells amounts that go all around, or a cut without "-"."""
        if is_told(value, "amounts", 2) and are_integers(value[1], len(self._ways)):
            return all([amount >= 1 for amount in value[1]]) and self._are_balanced(value[1])
        return self._is_plus_cut(value)

    def _are_balanced(self, amounts):
        """Whether at each place as much begins as ends."""
        for place in range(self._places):
            if sum([amount * _end_at(way, place) for amount, way in zip(amounts, self._ways)]) != 0:
                return False
        return True

    def ringless_count(self):
        """The number of lots of ways with which, turned, the web is ringless."""
        counts = active_counts_of(self._system.bases, len(self._ways))
        return sum([count << inner for (inner, outer), count in counts.items() if outer == 0])

    def around_count(self):
        """The number of lots of ways with which, turned, the web goes all around."""
        counts = active_counts_of(self._system.bases, len(self._ways))
        return sum([count << outer for (inner, outer), count in counts.items() if inner == 0])

    def __eq__(self, other):
        return isinstance(other, Web) and self._places == other._places and self._ways == other._ways

    def __len__(self):
        return len(self._ways)

    def __str__(self):
        return " ".join([f"web of {self._places} places:", *[f"{first}-{last}" for first, last in self._ways]])
