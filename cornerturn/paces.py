"""Paces: a guard who moves along several ties in a move, against a runner of a speed."""

from cornerturn.bits import spread
from cornerturn.errors import WebError
from cornerturn.escapes import an_escape, is_escape
from cornerturn.games import paced_guard, runs_of
from cornerturn.planning import best_plan, turns_of_plan
from cornerturn.webs import check_place

MOST_PACE = 12


class BadPace(WebError):
    """A value is not a pace or a speed."""

    def __init__(self, value):
        self.value = value


def _check_pace(value):
    if not isinstance(value, int) or isinstance(value, bool) or not 1 <= value <= MOST_PACE:
        raise BadPace(value)


def _game(web, pace, speed):
    """Return the game of a pace and a speed; raise BadPace for any values that are none."""
    _check_pace(pace)
    _check_pace(speed)
    return paced_guard(web, pace, speed)


def reach(web, place, pace):
    """Return the list of the places to which a guard of a pace can move."""
    check_place(web, place)
    _check_pace(pace)
    return web.named(spread(web.sights(), web.places.index(place), pace, 0))


def runs(web, guard, runner, speed):
    """Return the list of the places to which a runner of a speed can move, while the guard is at its place."""
    check_place(web, guard)
    check_place(web, runner)
    _check_pace(speed)
    return web.named(runs_of(web, web.places.index(guard), web.places.index(runner), speed))


def pace_rank(web, guard, runner, pace, speed):
    """Return the rank of a standing, None if the runner can get away for ever."""
    check_place(web, guard)
    check_place(web, runner)
    return _game(web, pace, speed).rank(guard, runner)


def pace_turns(web, pace, speed):
    """Return the turns that a web needs, None if one guard is not enough."""
    return _game(web, pace, speed).least()


def least_pace(web, speed):
    """Return the least pace of a guard who is enough, None if no pace is."""
    _check_pace(speed)
    # Whatever is within reach at all can be moved to at the greatest pace; a greater pace is never worse.
    for pace in range(1, MOST_PACE + 1):
        if paced_guard(web, pace, speed).least() is not None:
            return pace
    return None


def pace_plan(web, pace, speed):
    """Return a good plan with as few turns as need be, None if one guard is not enough."""
    return best_plan(_game(web, pace, speed))


def pace_plan_turns(web, pace, speed, value):
    """Return the turns of any value that is a good plan, None for all other values."""
    return turns_of_plan(_game(web, pace, speed), value)


def pace_way_out(web, pace, speed):
    """Return a way out, None if one guard is enough."""
    return an_escape(_game(web, pace, speed))


def is_pace_way_out(web, pace, speed, value):
    """Tell whether any value is a way out."""
    return is_escape(_game(web, pace, speed), value)
