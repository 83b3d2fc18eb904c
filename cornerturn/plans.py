"""Plans of a guard: where to begin, and where to move from each standing."""

from cornerturn.ranks import all_ranks, best_starts
from cornerturn.webs import is_place, seen_places


def a_plan(web):
    """Return a good plan of a guard with as few turns as the web needs, None if one guard is not enough."""
    starts = best_starts(web)
    if not starts:
        return None
    seen = seen_places(web)
    ranks = all_ranks(web)
    return starts[0], {(guard, runner): _best_move(seen, ranks, guard, runner)
                       for guard, runner in ranks if guard != runner}


def _best_move(seen, ranks, guard, runner):
    """Return a place to move to by which the runner is caught, or behind which all ranks are less."""
    if runner in seen[guard]:
        return runner
    rank = ranks[guard, runner]
    good = [place for place in seen[guard] if all([ranks[place, other] < rank for other in seen[runner]])]
    return good[0]


def plan_turns(web, value):
    """Return the turns of any value that is a good plan of a guard, None for all other values."""
    if not isinstance(value, tuple) or len(value) != 2:
        return None
    start, moves = value
    if not is_place(web, start) or not isinstance(moves, dict):
        return None
    behind = _standings_behind(web, start, moves)
    if behind is None:
        return None
    return _longest(behind)


def _standings_behind(web, start, moves):
    """Return a dict from each standing that comes up to the list of those that can come up behind it.

    None if one that comes up has no entry, or a wrong one, in moves.
    """
    seen = seen_places(web)
    behind = {}
    waiting = [(start, place) for place in web.places if place != start]
    while waiting:
        guard, runner = waiting.pop()
        if (guard, runner) in behind:
            continue
        if (guard, runner) not in moves or moves[guard, runner] not in seen[guard]:
            return None
        place = moves[guard, runner]
        answers = [] if place == runner else seen[runner]
        behind[guard, runner] = [(place, other) for other in answers if other != place]
        waiting.extend(behind[guard, runner])
    return behind


def _longest(behind):
    """Return how many standings at most come up one behind the other, None if some come up again and again."""
    longest = 0
    left = behind
    while left:
        # Those behind which none is left come up last.
        later = {standing: behind[standing] for standing in left if any([other in left for other in behind[standing]])}
        if len(later) == len(left):
            return None
        left = later
        longest += 1
    return longest
