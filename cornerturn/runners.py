"""Plans of a runner: where to begin and to move, wherever the guard is."""

from cornerturn.errors import BadPlan
from cornerturn.ranks import all_ranks
from cornerturn.webs import is_place, seen_places


def a_runner(web):
    """Return a runner's plan that lasts as long as any."""
    seen = seen_places(web)
    ranks = all_ranks(web)
    starts = {guard: _safest(ranks, guard, web.places) for guard in web.places}
    moves = {(guard, runner): _safest(ranks, guard, seen[runner]) for guard, runner in ranks if guard != runner}
    return starts, moves


def _safest(ranks, guard, places):
    """Return the one of some places where the runner lasts longest while the guard is to move."""
    for place in places:
        if ranks[guard, place] is None:
            return place
    return max(places, key=lambda place: ranks[guard, place])


def lasts(web, value):
    """Return for how many turns a runner's plan lasts, None if it lasts for ever."""
    if not _is_plan(web, value):
        raise BadPlan(value)
    starts, moves = value
    seen = seen_places(web)
    turns = 0
    known = {}
    reached = {(guard, starts[guard]): True for guard in web.places}
    while reached:
        if any([guard == runner for guard, runner in reached]):
            return turns
        for standing in reached:
            known[standing] = True
        later = [_behind(moves, place, runner) for guard, runner in reached for place in seen[guard]]
        reached = {standing: True for standing in later if standing not in known}
        turns += 1
    return None


def _behind(moves, guard, runner):
    """Return the standing behind a turn in which the guard has moved to a place."""
    return (guard, runner) if guard == runner else (guard, moves[guard, runner])


def _is_plan(web, value):
    """Tell whether any value is a runner's plan for a web."""
    if not isinstance(value, tuple) or len(value) != 2:
        return False
    starts, moves = value
    return _are_starts(web, starts) and _are_moves(web, moves)


def _are_starts(web, value):
    if not isinstance(value, dict) or len(value) != len(web.places):
        return False
    return all([guard in value and is_place(web, value[guard]) for guard in web.places])


def _are_moves(web, value):
    seen = seen_places(web)
    standings = [(guard, runner) for guard in seen for runner in seen if guard != runner]
    if not isinstance(value, dict) or len(value) != len(standings):
        return False
    return all([standing in value and value[standing] in seen[standing[1]] for standing in standings])
