"""Chases of teams: plays of two guards and a runner, turn by turn."""

from cornerturn.games import two_guards
from cornerturn.playing import beginning, best_choices, state_behind, states_before, turns_left

GUARDS = "guards"


class TeamChase:
    """A play of two guards and a runner in a web, with all its moves and choices."""

    def __init__(self, web):
        self._web = web
        self._game = two_guards(web)
        # All states that were, the running one last.
        self._states = [beginning(GUARDS)]

    def __eq__(self, other):
        return (isinstance(other, TeamChase) and self._web == other._web and self.post == other.post
                and self.runner == other.runner and self.who == other.who)

    @property
    def web(self):
        """The web."""
        return self._web

    @property
    def post(self):
        """The guards' post, None as long as none is chosen."""
        stand = self._states[-1][0]
        return None if stand is None else self._game.stands[stand]

    @property
    def runner(self):
        """The runner's place, None as long as none is chosen."""
        place = self._states[-1][1]
        return None if place is None else self._game.names[place]

    @property
    def turns(self):
        """How many moves the guards have made."""
        return self._states[-1][2]

    @property
    def who(self):
        """Whoever is to choose or to move: "guards" or "runner", and "none" when the runner is caught."""
        return self._states[-1][3]

    def move(self, value):
        """Let those whose turn it is choose a post, or a place, or move to it."""
        self._states.append(state_behind(self._game, GUARDS, self._states[-1], value))

    def left(self):
        """Return how many further turns the guards need at best, None if the runner can get away for ever."""
        return turns_left(self._game, self._states[-1])

    def best(self):
        """Return the list of the posts, or places, with which those whose turn it is reach this."""
        return best_choices(self._game, self._states[-1])

    def undo(self, number):
        """Take back the last moves and choices."""
        self._states = states_before(self._states, number)

    def fork(self):
        """Return a new equal chase with the same moves to take back."""
        made = TeamChase(self._web)
        made._states = list(self._states)
        return made
