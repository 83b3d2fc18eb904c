"""Ranks of standings, reckoned on places as bits: all runners beside one stand of the guards at a time."""

from cornerturn.bits import bits_of, united


def lost_runners(steps, won):
    """Return the places from which each move of the runner leads to a place of won."""
    lost = 0
    for place, step in enumerate(steps):
        if step & won == step:
            lost |= 1 << place
    return lost


def rank_rounds(ways, held, steps):
    """Return the list: for each rank there is, for each stand of the guards, the runner's places of at most this rank.

    For each stand are given: the positions of those that can be moved to, the places held, and the runner's moves.
    """
    rounds = [held]
    while len(rounds) == 1 or rounds[-1] != rounds[-2]:
        won = rounds[-1]
        lost = [lost_runners(steps[stand], won[stand]) | held[stand] for stand in range(len(ways))]
        rounds.append([united(lost, seen) for seen in ways])
    return rounds[:-1]


def rank_rows(rounds, places):
    """Return a tuple of rows, one for each stand of the guards: tuples of the ranks, one for each of the places."""
    before = [0] * len(rounds[0])
    rows = [[None] * places for _ in before]
    for rank, won in enumerate(rounds):
        for stand, row in enumerate(rows):
            for place in bits_of(won[stand] & ~before[stand]):
                row[place] = rank
        before = won
    return tuple([tuple(row) for row in rows])


def greatest_rank(ranks):
    """Return the greatest one of some ranks, None if one of them is None."""
    return None if None in ranks else max(ranks)


def least_rank(ranks):
    """Return the least one of some ranks, None if all of them are None."""
    return min([rank for rank in ranks if rank is not None], default=None)
