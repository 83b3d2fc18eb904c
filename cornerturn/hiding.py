"""Where a runner can be whom the guard does not see: lots, as numbers whose bits are places counted from 0."""

from cornerturn.bits import bits_of


def seen_from_all(sights):
    """Return the list: at each number, whose bits are places, all places that are seen from these."""
    seen = [0]
    for sight in sights:
        seen = seen + [sight | others for others in seen]
    return seen


def later_lot(seen, lot, place):
    """Return the lot behind a move of the guard to a place."""
    guard = 1 << place
    return seen[lot & ~guard] & ~guard


def _first_lots(sights):
    """Return the list of tuples (place, lot) for all places where the guard can begin."""
    whole = (1 << len(sights)) - 1
    return [(place, whole & ~(1 << place)) for place in range(len(sights))]


def shortest_walk(sights):
    """Return the list of the places of a shortest walk that catches, [] if none does."""
    seen = seen_from_all(sights)
    ways = [bits_of(sight) for sight in sights]
    # Each tuple (place, lot) that some walk leads to, and the one before it.
    before = {start: None for start in _first_lots(sights)}
    fresh = list(before)
    while fresh:
        later = {}
        for place, lot in fresh:
            if lot == 0:
                return _walk_to(before, (place, lot))
            for step in ways[place]:
                reached = (step, later_lot(seen, lot, step))
                if reached not in before:
                    before[reached] = (place, lot)
                    later[reached] = True
        fresh = list(later)
    return []


def _walk_to(before, last):
    walk = []
    while last is not None:
        walk.append(last[0])
        last = before[last]
    return walk[::-1]


def holds_one_of(lot, lots):
    """Tell whether a lot has all places of one of some lots."""
    return any([other & ~lot == 0 for other in lots])


def least_lots(lots, lot):
    """Return the list of those of some lots, and of one more, that hold no other one of these."""
    if holds_one_of(lot, lots):
        return lots
    return [other for other in lots if not holds_one_of(other, [lot])] + [lot]


def small_refuge(sights):
    """Return the list of the tuples (place, lot) of a refuge, [] if some walk catches."""
    seen = seen_from_all(sights)
    ways = [bits_of(sight) for sight in sights]
    lots_at = [[] for _ in sights]
    waiting = _first_lots(sights)
    while waiting:
        place, lot = waiting.pop()
        if lot == 0:
            return []
        # Behind more places there are more places: an entry with a lot that this one holds does as well.
        if not holds_one_of(lot, lots_at[place]):
            lots_at[place] = least_lots(lots_at[place], lot)
            waiting.extend([(step, later_lot(seen, lot, step)) for step in ways[place]])
    return [(place, lot) for place, found in enumerate(lots_at) for lot in found]


def is_closed(sights, lots_at):
    """Tell whether behind each of the places' lots and each move of the guard there is one of the lots."""
    seen = seen_from_all(sights)
    for place, sight in enumerate(sights):
        for step in bits_of(sight):
            for lot in lots_at[place]:
                if not holds_one_of(later_lot(seen, lot, step), lots_at[step]):
                    return False
    return True
