"""Ranks of standings: in how many turns the guard surely catches the runner."""

from cornerturn.webs import check_place


def rank_of(web, guard, runner):
    """Return the rank of a standing, None if the runner can get away for ever."""
    check_place(web, guard)
    check_place(web, runner)
    return web.ranks()[web.places.index(guard)][web.places.index(runner)]


def all_ranks(web):
    """Return the dict from all standings of a web to their ranks."""
    return {(guard, runner): rank
            for guard, row in zip(web.places, web.ranks()) for runner, rank in zip(web.places, row)}


def is_ranks(web, value):
    """Tell whether any value is the dict from all standings of a web to their ranks."""
    if not isinstance(value, dict) or value != all_ranks(web):
        return False
    # True equals 1 and False equals 0, but they are no ranks.
    return not any([isinstance(rank, bool) for rank in value.values()])


def turns_needed(web):
    """Return the turns that a web needs, None if one guard is not enough."""
    return _least(_greatest_ranks(web))


def best_starts(web):
    """Return the list of the places from which all standings have at most the rank that a web needs."""
    greatest = _greatest_ranks(web)
    turns = _least(greatest)
    if turns is None:
        return []
    return [place for place, rank in zip(web.places, greatest) if rank == turns]


def _greatest_ranks(web):
    """Return the list of the greatest ranks from each place, None where one is None."""
    return [None if None in row else max(row) for row in web.ranks()]


def _least(greatest):
    return min([rank for rank in greatest if rank is not None], default=None)
