"""Plans of a guard: where to begin, and where to move from each standing."""

from cornerturn.games import one_guard
from cornerturn.planning import best_plan, turns_of_plan


def a_plan(web):
    """Return a good plan of a guard with as few turns as the web needs, None if one guard is not enough."""
    return best_plan(one_guard(web))


def plan_turns(web, value):
    """Return the turns of any value that is a good plan of a guard, None for all other values."""
    return turns_of_plan(one_guard(web), value)
