"""Plays turn by turn: what can be chosen or moved to, and with what the one whose turn it is does best.

A state of a play is a tuple (stand, place, turns, mover): where the guards and the runner are, counted from 0, or None
as long as nothing is chosen; how many moves the guards have made; and who is to choose or to move.
"""

from cornerturn.bits import bits_of
from cornerturn.errors import BadMove, TooFar
from cornerturn.reckoning import greatest_rank, least_rank

RUNNER = "runner"
NOBODY = "none"


def beginning(guards):
    """Return the state in which nothing is chosen; the guards, by their word, are to choose."""
    return None, None, 0, guards


def state_behind(game, guards, state, value):
    """Return the state behind a choice or a move; raise BadMove for any value that can not be chosen or moved to."""
    names = _names_of_choices(game, state)
    for choice in _choices(game, state):
        if names[choice] == value:
            return _state_with(game, guards, state, choice)
    raise BadMove(value)


def _choices(game, state):
    """Return the list of what the one whose turn it is can choose or move to, counted from 0."""
    stand, place, _, mover = state
    if mover == NOBODY:
        return []
    if stand is None:
        return list(range(len(game.stands)))
    if place is None:
        return list(range(len(game.names)))
    return bits_of(game.steps[stand][place]) if mover == RUNNER else list(game.ways[stand])


def _names_of_choices(game, state):
    return game.names if state[-1] == RUNNER else game.stands


def _state_with(game, guards, state, choice):
    stand, place, turns, mover = state
    if mover == RUNNER:
        return stand, choice, turns, (NOBODY if game.catches(stand, choice) else guards)
    if stand is None:
        return choice, None, turns, RUNNER
    return choice, place, turns + 1, (NOBODY if game.catches(choice, place) else RUNNER)


def turns_left(game, state):
    """Return how many further turns the guards need at best, None if the runner can get away for ever."""
    if state[-1] == NOBODY:
        return 0
    return _reached(state, [_turns_with(game, state, choice) for choice in _choices(game, state)])


def best_choices(game, state):
    """Return the list of the choices or moves with which the one whose turn it is reaches the turns that are left."""
    choices = _choices(game, state)
    turns = [_turns_with(game, state, choice) for choice in choices]
    reached = _reached(state, turns)
    names = _names_of_choices(game, state)
    return [names[choice] for choice, many in zip(choices, turns) if many == reached]


def _reached(state, turns):
    """Return the one of the turns of all choices that the one whose turn it is likes best."""
    return greatest_rank(turns) if state[-1] == RUNNER else least_rank(turns)


def _turns_with(game, state, choice):
    """Return how many further turns, this one too, the guards need with a choice or a move, None for ever."""
    stand, place, _, mover = state
    if mover == RUNNER:
        return game.rows()[stand][choice]
    if place is None:
        return greatest_rank(game.rows()[choice])
    return game.turns_by(choice, place)


def states_before(states, number):
    """Return the list of the states but for the last ones; raise TooFar if only the beginning is before that."""
    count = len(states) - 1
    if number > count:
        raise TooFar(count)
    return states[:len(states) - number]
