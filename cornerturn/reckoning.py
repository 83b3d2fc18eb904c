"""Ranks of standings, reckoned on places as bits: all runners beside one guard at a time."""

from cornerturn.bits import bits_of, united


def lost_runners(sights, won):
    """Return the places from which each move of the runner leads to a place of won."""
    lost = 0
    for place, sight in enumerate(sights):
        if sight & won == sight:
            lost |= 1 << place
    return lost


def rank_rows(sights):
    """Return a tuple of rows, one for each place of the guard: tuples of the ranks, one for each of the runner."""
    places = range(len(sights))
    seen = [bits_of(sight) for sight in sights]
    rows = [[None] * len(sights) for _ in places]
    won = [0] * len(sights)
    fresh = [1 << place for place in places]
    rank = 0
    while any(fresh):
        for guard in places:
            for runner in bits_of(fresh[guard]):
                rows[guard][runner] = rank
        won = [won[guard] | fresh[guard] for guard in places]
        lost = [lost_runners(sights, won[guard]) | (1 << guard) for guard in places]
        fresh = [united(lost, seen[guard]) & ~won[guard] for guard in places]
        rank += 1
    return tuple([tuple(row) for row in rows])
