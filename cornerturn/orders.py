"""Orders in which the places of a web can be taken away, and cores, which are left of webs."""

from cornerturn.taking import first_step, overlookers_among, take_away
from cornerturn.webs import are_places, check_place


def overlookers(web, place):
    """Return the list of the places by which a place is overlooked among all places of a web."""
    check_place(web, place)
    found = overlookers_among(web.sights(), web.whole(), web.places.index(place))
    return [web.places[at] for at in found]


def an_order(web):
    """Return an order of a web, None if there is none."""
    steps, _ = take_away(web.sights(), web.whole(), 0)
    if len(steps) < len(web.places) - 1:
        return None
    return [(web.places[place], web.places[overlooker]) for place, overlooker in steps]


def is_order(web, value):
    """Tell whether any value is an order of a web."""
    if not isinstance(value, list) or len(value) != len(web.places) - 1:
        return False
    left = list(web.places)
    for entry in value:
        if not _is_step(web, left, entry):
            return False
        left.remove(entry[0])
    return True


def _is_step(web, left, value):
    """Tell whether any value is a tuple of a place and its overlooker among those that are left."""
    if not isinstance(value, tuple) or len(value) != 2:
        return False
    place, overlooker = value
    if place not in left or overlooker not in left or place == overlooker:
        return False
    overlooked = web.sees(overlooker)
    return all([seen in overlooked for seen in web.sees(place) if seen in left])


def a_core(web):
    """Return a core of a web, a list of places in the web's sequence."""
    _, left = take_away(web.sights(), web.whole(), 0)
    return web.named(left)


def is_core(web, value):
    """Tell whether any value is a list of different places that are a core of a web."""
    if not are_places(web, value):
        return False
    sights = web.sights()
    kept = sum([1 << web.places.index(place) for place in value])
    _, left = take_away(sights, web.whole(), kept)
    return left == kept and first_step(sights, left, left) is None
