"""Ranks of standings: in how many turns the guard surely catches the runner."""

from cornerturn.games import one_guard
from cornerturn.webs import check_place


def rank_of(web, guard, runner):
    """Return the rank of a standing, None if the runner can get away for ever."""
    check_place(web, guard)
    check_place(web, runner)
    return one_guard(web).rank(guard, runner)


def all_ranks(web):
    """Return the dict from all standings of a web to their ranks."""
    return one_guard(web).ranks()


def is_ranks(web, value):
    """Tell whether any value is the dict from all standings of a web to their ranks."""
    if not isinstance(value, dict) or value != all_ranks(web):
        return False
    # True equals 1 and False equals 0, but they are no ranks.
    return not any([isinstance(rank, bool) for rank in value.values()])


def turns_needed(web):
    """Return the turns that a web needs, None if one guard is not enough."""
    return one_guard(web).least()


def best_starts(web):
    """Return the list of the places from which all standings have at most the rank that a web needs."""
    return one_guard(web).starts()
