"""Ways out: the moves by which a runner gets away from one guard for ever."""

from cornerturn.ranks import all_ranks, turns_needed
from cornerturn.webs import is_place, seen_places


def way_out(web):
    """Return a way out of a web, None if one guard is enough."""
    if turns_needed(web) is not None:
        return None
    seen = seen_places(web)
    ranks = all_ranks(web)
    found = {}
    for guard, runner in ranks:
        safe = [place for place in seen[runner] if ranks[guard, place] is None]
        if guard != runner and safe:
            found[guard, runner] = safe[0]
    return found


def is_way_out(web, value):
    """Tell whether any value is a way out of a web."""
    if not isinstance(value, dict):
        return False
    seen = seen_places(web)
    for key, place in value.items():
        if not _is_standing(web, key) or not _gets_away(seen, value, key, place):
            return False
    return all([_can_begin(seen, value, guard) for guard in web.places])


def _is_standing(web, value):
    """Tell whether any value is a tuple of two different places."""
    if not isinstance(value, tuple) or len(value) != 2:
        return False
    guard, runner = value
    return is_place(web, guard) and is_place(web, runner) and guard != runner


def _gets_away(seen, entries, standing, place):
    """Tell whether any value is a place where the runner of a standing is safe from each move of the guard."""
    guard, runner = standing
    return place in seen[runner] and _is_safe(seen, entries, guard, place)


def _is_safe(seen, entries, guard, runner):
    """Tell whether the runner is not caught by a move of the guard, and each move has an entry behind it."""
    return runner not in seen[guard] and all([(place, runner) in entries for place in seen[guard]])


def _can_begin(seen, entries, guard):
    return any([_is_safe(seen, entries, guard, runner) for runner in seen])
