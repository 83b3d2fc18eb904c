"""Ranks of standings: in how many turns the guard surely catches the runner."""

from cornerturn.webs import check_place


def rank_of(web, guard, runner):
    """Return the rank of a standing, None if the runner can get away for ever."""
    check_place(web, guard)
    check_place(web, runner)
    return all_ranks(web)[guard, runner]


def all_ranks(web):
    """Return the dict from all standings of a web to their ranks."""
    seen = {place: web.sees(place) for place in web.places}
    ranks = {(guard, runner): None for guard in web.places for runner in web.places}
    rank = 0
    found = [(place, place) for place in web.places]
    while found:
        for standing in found:
            ranks[standing] = rank
        rank += 1
        found = _next_standings(seen, ranks)
    return ranks


def _next_standings(seen, ranks):
    """Return the standings that get the next rank when those of all lower ranks have theirs."""
    lost = {standing: True for standing in ranks if _is_lost(seen, ranks, standing)}
    return [(guard, runner) for guard, runner in ranks
            if ranks[guard, runner] is None and any([(place, runner) in lost for place in seen[guard]])]


def _is_lost(seen, ranks, standing):
    """Tell whether the runner is caught, or comes to a rank with each move, where it is to move."""
    guard, runner = standing
    return guard == runner or all([ranks[guard, place] is not None for place in seen[runner]])


def is_ranks(web, value):
    """Tell whether any value is the dict from all standings of a web to their ranks."""
    if not isinstance(value, dict):
        return False
    ranks = all_ranks(web)
    if len(value) != len(ranks):
        return False
    return all([standing in value and _same_rank(value[standing], ranks[standing]) for standing in ranks])


def _same_rank(value, rank):
    if rank is None:
        return value is None
    # True equals 1 and False equals 0, but they are no ranks.
    return isinstance(value, int) and not isinstance(value, bool) and value == rank


def turns_needed(web):
    """Return the turns that a web needs, None if one guard is not enough."""
    return _least(_greatest_ranks(web))


def best_starts(web):
    """Return the list of the places from which all standings have at most the rank that a web needs."""
    greatest = _greatest_ranks(web)
    turns = _least(greatest)
    if turns is None:
        return []
    return [place for place in web.places if greatest[place] == turns]


def _greatest_ranks(web):
    """Return a dict from each place to the greatest rank from there, None if one is None."""
    ranks = all_ranks(web)
    return {guard: _greatest([ranks[guard, runner] for runner in web.places]) for guard in web.places}


def _greatest(ranks):
    return None if None in ranks else max(ranks)


def _least(greatest):
    return min([rank for rank in greatest.values() if rank is not None], default=None)
