"""Ranks of standings, reckoned on places as bits: all runners beside one stand of the guards at a time."""

from cornerturn.bits import bits_of, united


def lost_runners(steps, won):
    """Return the places from which each move of the runner leads to a place of won."""
    lost = 0
    for place, step in enumerate(steps):
        if step & won == step:
            lost |= 1 << place
    return lost


def rank_rows(ways, held, steps):
    """Return a tuple of rows, one for each stand of the guards: tuples of the ranks, one for each of the runner's.

    For each stand are given: the positions of those that can be moved to, the places held, and the runner's moves.
    """
    stands = range(len(ways))
    rows = [[None] * len(steps[stand]) for stand in stands]
    won = [0] * len(ways)
    fresh = list(held)
    rank = 0
    while any(fresh):
        for stand in stands:
            for runner in bits_of(fresh[stand]):
                rows[stand][runner] = rank
        won = [won[stand] | fresh[stand] for stand in stands]
        lost = [lost_runners(steps[stand], won[stand]) | held[stand] for stand in stands]
        fresh = [united(lost, ways[stand]) & ~won[stand] for stand in stands]
        rank += 1
    return tuple([tuple(row) for row in rows])


def greatest_rank(ranks):
    """Return the greatest one of some ranks, None if one of them is None."""
    return None if None in ranks else max(ranks)


def least_rank(ranks):
    """Return the least one of some ranks, None if all of them are None."""
    return min([rank for rank in ranks if rank is not None], default=None)
