"""Games: where guards and a runner can be, how they move, and in how many turns the runner is caught.

What the guards hold is called a stand: the place of one guard, or a post. Stands and places are counted from 0 in
their sequences; several places are the bits of a number.
"""

from cornerturn.bits import bits_of
from cornerturn.reckoning import greatest_rank, least_rank, rank_rows


class Game:
    """All that a play can come to; it never changes."""

    def __init__(self, names, stands, ways, held, steps):
        self.names = names
        self.stands = stands
        # For each stand: the list of the stands that can be moved to, the places at which a runner is caught,
        # and the tuple of what the runner can move to from each place.
        self.ways = ways
        self.held = held
        self.steps = steps
        self._rows = None

    def rows(self):
        """Return the tuple of the stands' rows: tuples of the ranks for each place of the runner."""
        if self._rows is None:
            self._rows = rank_rows(self.ways, self.held, self.steps)
        return self._rows

    def rank(self, stand, place):
        """Return the rank of a standing that is given by what its stand and its place are called."""
        return self.rows()[self.stands.index(stand)][self.names.index(place)]

    def ranks(self):
        """Return the dict from all standings to their ranks."""
        return {(stand, place): rank
                for stand, row in zip(self.stands, self.rows()) for place, rank in zip(self.names, row)}

    def least(self):
        """Return the least number of turns in which the runner is caught, None if there is none."""
        return least_rank([greatest_rank(row) for row in self.rows()])

    def starts(self):
        """Return the list of the stands from which the runner is caught in the least number of turns."""
        greatest = [greatest_rank(row) for row in self.rows()]
        turns = least_rank(greatest)
        if turns is None:
            return []
        return [stand for stand, rank in zip(self.stands, greatest) if rank == turns]

    def catches(self, stand, place):
        """Tell whether a runner at a place is caught by the guards of a stand."""
        return self.held[stand] >> place & 1 == 1


def one_guard(web):
    """Return the game of one guard in a web; it is made once for each web."""
    if web.kept("guard") is None:
        sights = web.sights()
        ways = [bits_of(sight) for sight in sights]
        held = [1 << place for place in range(len(sights))]
        web.keep("guard", Game(web.places, web.places, ways, held, [sights] * len(sights)))
    return web.kept("guard")
