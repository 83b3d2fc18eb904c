"""Ways out of a game: dicts from standings where the runner is to move to the place to which it gets away."""

from cornerturn.bits import bits_of, common


def an_escape(game):
    """Return a way out, None if there is none."""
    if game.least() is not None:
        return None
    found = {}
    for stand, row in enumerate(game.rows()):
        safe = sum([1 << place for place, rank in enumerate(row) if rank is None])
        for place, steps in enumerate(game.steps[stand]):
            if not game.catches(stand, place) and steps & safe:
                found[game.stands[stand], game.names[place]] = game.names[bits_of(steps & safe)[0]]
    return found


def is_escape(game, value):
    """Tell whether any value is a way out."""
    if not isinstance(value, dict):
        return False
    standings = game.standings()
    if not all([key in standings for key in value]) or not all([step in game.names for step in value.values()]):
        return False
    safe = _safe_places(game, value)
    # Wherever the guards begin, there is a safe place for the runner; and each entry leads to one.
    return all(safe) and all([_gets_away(game, safe, standings[key], step) for key, step in value.items()])


def _safe_places(game, entries):
    """Return the list of the places, for each stand, at which a runner has an entry behind each move of the guards.

    There are no entries for places that the guards hold, so a runner at these places is not caught by the move.
    """
    standings = game.standings()
    entered = [0] * len(game.stands)
    for key in entries:
        stand, place = standings[key]
        entered[stand] |= 1 << place
    return [common(entered, ways) for ways in game.ways]


def _gets_away(game, safe, standing, name):
    """Tell whether the runner of a standing can move to a safe place of this name."""
    stand, place = standing
    return game.steps[stand][place] & safe[stand] & 1 << game.names.index(name) != 0
