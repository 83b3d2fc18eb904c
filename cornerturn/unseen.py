"""A guard who does not see the runner: walks that catch it wherever it is, and refuges, which no walk clears."""

from cornerturn.errors import BadPlan
from cornerturn.hiding import is_closed, later_lot, least_lots, seen_from_all, shortest_walk, small_refuge
from cornerturn.webs import is_place


def lots(web, walk):
    """Return the list of the lots behind each place of a walk; raise BadPlan for any value that is not a walk."""
    if not _is_walk(web, walk):
        raise BadPlan(walk)
    return [web.named(lot) for lot in _lots_of_walk(web, walk)]


def _is_walk(web, value):
    if not isinstance(value, list) or not value or not all([is_place(web, place) for place in value]):
        return False
    return all([place in web.sees(before) for before, place in zip(value, value[1:])])


def _lots_of_walk(web, walk):
    steps = [web.places.index(place) for place in walk]
    seen = seen_from_all(web.sights())
    found = [web.whole() & ~(1 << steps[0])]
    for step in steps[1:]:
        found.append(later_lot(seen, found[-1], step))
    return found


def catches(web, value):
    """Tell whether any value is a walk that catches."""
    return _is_walk(web, value) and _lots_of_walk(web, value)[-1] == 0


def _kept_walk(web):
    """Return a shortest walk that catches, its places counted from 0, [] if none does; it is looked for once."""
    if web.kept("walk") is None:
        web.keep("walk", shortest_walk(web.sights()))
    return web.kept("walk")


def walk_turns(web):
    """Return the turns of a shortest walk that catches, None if none does."""
    walk = _kept_walk(web)
    return len(walk) - 1 if walk else None


def a_walk(web):
    """Return a shortest walk that catches, None if none does."""
    walk = _kept_walk(web)
    return [web.places[place] for place in walk] if walk else None


def a_refuge(web):
    """Return a refuge, None if some walk catches."""
    if web.kept("refuge") is None:
        web.keep("refuge", small_refuge(web.sights()))
    entries = web.kept("refuge")
    return [(web.places[place], tuple(web.named(lot))) for place, lot in entries] if entries else None


def is_refuge(web, value):
    """Tell whether any value is a refuge."""
    if not isinstance(value, list) or not all([_is_entry(web, entry) for entry in value]):
        return False
    lots_at = [[] for _ in web.places]
    for place, lot in value:
        at = web.places.index(place)
        # What holds for a lot holds for all that have more places.
        lots_at[at] = least_lots(lots_at[at], sum([1 << web.places.index(other) for other in lot]))
    return all(lots_at) and is_closed(web.sights(), lots_at)


def _is_entry(web, value):
    """Tell whether any value is a tuple of a place and a tuple of others, each once, in the web's sequence."""
    if not isinstance(value, tuple) or len(value) != 2:
        return False
    place, lot = value
    if not is_place(web, place) or not isinstance(lot, tuple) or not lot or place in lot:
        return False
    if not all([is_place(web, other) for other in lot]):
        return False
    steps = [web.places.index(other) for other in lot]
    return steps == sorted(set(steps))
