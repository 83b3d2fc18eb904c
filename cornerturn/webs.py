"""Webs of places: what is tied to what, and what is seen from where."""

from cornerturn.bits import bits_of
from cornerturn.errors import BadPlaces, BadTie, BadTies, NoPlace

MOST_PLACES = 12
MOST_LETTERS = 8
LETTERS = "abcdefghijklmnopqrstuvwxyz"


def is_name(value):
    """Tell whether any value can be the name of a place."""
    if not isinstance(value, str):
        return False
    return 1 <= len(value) <= MOST_LETTERS and all([sign in LETTERS for sign in value])


def is_place(web, value):
    """Tell whether any value is a place of a web."""
    return value in web.places


def check_place(web, value):
    """Raise NoPlace for any value that is not a place of a web."""
    if not is_place(web, value):
        raise NoPlace(value)


def _all_differ(names):
    return len(set(names)) == len(names)


def are_places(web, value):
    """Tell whether any value is a list of different places of a web."""
    if not isinstance(value, list) or not all([is_place(web, place) for place in value]):
        return False
    return _all_differ(value)


def _check_places(places):
    # The names are looked at before they are compared by a set: other values may not fit into one.
    if not isinstance(places, (list, tuple)) or not 1 <= len(places) <= MOST_PLACES:
        raise BadPlaces(places)
    if not all([is_name(place) for place in places]) or not _all_differ(places):
        raise BadPlaces(places)


def _is_tie(places, value):
    if not isinstance(value, tuple) or len(value) != 2:
        return False
    one, other = value
    return one in places and other in places and one != other


def _pair(tie):
    """Return the same pair for a tie, whichever of its places stands first."""
    one, other = tie
    return (one, other) if one < other else (other, one)


def _check_ties(places, known, ties):
    """Raise an error unless ties are ties that can stand behind the known ones."""
    if not isinstance(ties, (list, tuple)):
        raise BadTies(ties)
    pairs = {_pair(tie) for tie in known}
    for position, entry in enumerate(ties):
        if not _is_tie(places, entry) or _pair(entry) in pairs:
            raise BadTie(position)
        pairs.add(_pair(entry))


def _sights(places, ties):
    """Return a tuple: for each place the number whose bits are the places that it sees."""
    bits = {place: 1 << at for at, place in enumerate(places)}
    sights = {place: bits[place] for place in places}
    for one, other in ties:
        sights[one] |= bits[other]
        sights[other] |= bits[one]
    return tuple([sights[place] for place in places])


def seen_places(web):
    """Return a dict from each place of a web to the list of those that it sees, in the web's sequence."""
    return {place: web.sees(place) for place in web.places}


class Web:
    """A web of 1 to 12 places and the ties between them; it never changes."""

    def __init__(self, places, ties=()):
        _check_places(places)
        _check_ties(places, (), ties)
        self._places = tuple(places)
        self._ties = tuple(ties)
        self._sights = _sights(self._places, self._ties)
        self._seen = {place: self.named(sight) for place, sight in zip(self._places, self._sights)}
        self._kept = {}
        # Webs are compared by these two, in which no sequence counts.
        self._sorted_places = sorted(self._places)
        self._sorted_pairs = sorted([_pair(tie) for tie in self._ties])

    def __eq__(self, other):
        return (isinstance(other, Web) and self._sorted_places == other._sorted_places
                and self._sorted_pairs == other._sorted_pairs)

    @property
    def places(self):
        """The tuple of the places, as given."""
        return self._places

    @property
    def ties(self):
        """The tuple of the ties, as given."""
        return self._ties

    def sees(self, place):
        """Return the list of the places that a place sees, in the web's sequence."""
        check_place(self, place)
        return list(self._seen[place])

    def whole(self):
        """Return the number whose bits are all places."""
        return (1 << len(self._places)) - 1

    def named(self, number):
        """Return the list of the places whose bits a number has, in the web's sequence."""
        return [self._places[at] for at in bits_of(number)]

    def sights(self):
        """Return a tuple: for each place the number whose bits are the places that it sees."""
        return self._sights

    def kept(self, key):
        """Return what is kept of a web by a key, None if nothing is."""
        return self._kept.get(key)

    def keep(self, key, value):
        """Keep what was worked out of a web: as it never changes, nothing needs to be worked out twice."""
        self._kept[key] = value

    def parts(self):
        """Return the list of the greatest lists of places that hang together."""
        found = []
        left = list(self._places)
        while left:
            part = self._part_of(left[0])
            found.append(part)
            left = [place for place in left if place not in part]
        return found

    def _part_of(self, start):
        """Return the list of the places that hang together with one, in the web's sequence."""
        reached = {start: True}
        waiting = [start]
        while waiting:
            here = waiting.pop()
            for place in self._seen[here]:
                if place not in reached:
                    reached[place] = True
                    waiting.append(place)
        return [place for place in self._places if place in reached]

    def without(self, places):
        """Return a new web without some places and their ties."""
        if not are_places(self, places) or len(places) == len(self._places):
            raise BadPlaces(places)
        kept = [place for place in self._places if place not in places]
        return Web(kept, [(one, other) for one, other in self._ties if one in kept and other in kept])

    def tied(self, ties):
        """Return a new web with further ties behind the others."""
        _check_ties(self._places, self._ties, ties)
        return Web(self._places, self._ties + tuple(ties))
