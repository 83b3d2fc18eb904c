"""Plans of the guards of a game: tuples of a stand to begin with, and a dict from standings to stands."""

from cornerturn.bits import bits_of


def best_plan(game):
    """Return a good plan with as few turns as need be, None if there is no good plan."""
    starts = game.starts()
    if not starts:
        return None
    moves = {}
    for stand, row in enumerate(game.rows()):
        for place, rank in enumerate(row):
            # Where the rank is 0 nobody is to move, and where it is None the runner never comes from a good start.
            if rank:
                moves[game.stands[stand], game.names[place]] = game.stands[_best_way(game, stand, place, rank)]
    return starts[0], moves


def _best_way(game, stand, place, rank):
    """Return the first stand to move to by which the runner is caught, or behind which all ranks are less."""
    won = game.rounds()[rank - 1]
    for way in game.ways[stand]:
        if game.catches(way, place) or game.steps[way][place] & ~won[way] == 0:
            return way


def turns_of_plan(game, value):
    """Return the turns of any value that is a good plan, None for all other values."""
    if not isinstance(value, tuple) or len(value) != 2:
        return None
    start, moves = value
    if start not in game.stands or not isinstance(moves, dict):
        return None
    behind = _standings_behind(game, game.stands.index(start), moves)
    return None if behind is None else _longest(behind)


def _standings_behind(game, start, moves):
    """Return a dict from each standing that comes up to the list of those that can come up behind it.

    None if one that comes up has no entry, or a wrong one, in moves.
    """
    behind = {}
    waiting = [(start, place) for place in range(len(game.names)) if not game.catches(start, place)]
    while waiting:
        stand, place = waiting.pop()
        if (stand, place) in behind:
            continue
        way = _way_of(game, moves, stand, place)
        if way is None:
            return None
        steps = 0 if game.catches(way, place) else game.steps[way][place] & ~game.held[way]
        behind[stand, place] = [(way, step) for step in bits_of(steps)]
        waiting.extend(behind[stand, place])
    return behind


def _way_of(game, moves, stand, place):
    """Return the stand to which the entry for a standing leads, None if there is none that can be moved to."""
    key = (game.stands[stand], game.names[place])
    if key not in moves:
        return None
    for way in game.ways[stand]:
        if game.stands[way] == moves[key]:
            return way
    return None


def _longest(behind):
    """Return how many standings at most come up one behind the other, None if some come up again and again."""
    before = {standing: 0 for standing in behind}
    for later in behind.values():
        for standing in later:
            before[standing] += 1
    # Each standing is looked at when all before it have been: by then it is known how many come before it at most.
    ready = [standing for standing in behind if before[standing] == 0]
    longest = {standing: 1 for standing in behind}
    done = 0
    while ready:
        standing = ready.pop()
        done += 1
        for later in behind[standing]:
            longest[later] = max(longest[later], longest[standing] + 1)
            before[later] -= 1
            if before[later] == 0:
                ready.append(later)
    return max(list(longest.values()), default=0) if done == len(behind) else None
