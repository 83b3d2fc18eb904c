"""Games: where guards and a runner can be, how they move, and in how many turns the runner is caught.

What the guards hold is called a stand: the place of one guard, or a post. Stands and places are counted from 0 in
their sequences; several places are the bits of a number.
"""

from cornerturn.bits import bits_of, spread, united
from cornerturn.posting import all_posts, ways_of_posts
from cornerturn.reckoning import greatest_rank, least_rank, rank_rounds, rank_rows


class Game:
    """All that a play can come to; it never changes."""

    def __init__(self, names, stands, ways, held, steps):
        self.names = names
        self.stands = stands
        # For each stand: the list of the stands that can be moved to, the places at which a runner is caught,
        # and the tuple of what the runner can move to from each place.
        self.ways = ways
        self.held = held
        self.steps = steps
        self._rounds = None
        self._rows = None
        self._standings = None

    def rounds(self):
        """Return the list: for each rank the list of the stands' places of the runner with at most this rank."""
        if self._rounds is None:
            self._rounds = rank_rounds(self.ways, self.held, self.steps)
        return self._rounds

    def rows(self):
        """Return the tuple of the stands' rows: tuples of the ranks for each place of the runner."""
        if self._rows is None:
            self._rows = rank_rows(self.rounds(), len(self.names))
        return self._rows

    def rank(self, stand, place):
        """Return the rank of a standing that is given by what its stand and its place are called."""
        return self.rows()[self.stands.index(stand)][self.names.index(place)]

    def ranks(self):
        """Return the dict from all standings to their ranks."""
        return {(stand, place): rank
                for stand, row in zip(self.stands, self.rows()) for place, rank in zip(self.names, row)}

    def least(self):
        """Return the least number of turns in which the runner is caught, None if there is none."""
        return least_rank([greatest_rank(row) for row in self.rows()])

    def starts(self):
        """Return the list of the stands from which the runner is caught in the least number of turns."""
        greatest = [greatest_rank(row) for row in self.rows()]
        turns = least_rank(greatest)
        if turns is None:
            return []
        return [stand for stand, rank in zip(self.stands, greatest) if rank == turns]

    def catches(self, stand, place):
        """Tell whether a runner at a place is caught by the guards of a stand."""
        return self.held[stand] >> place & 1 == 1

    def turns_by(self, stand, place):
        """Return the turns that the guards need with a move to a stand from which the runner is seen at a place.

        That move's turn is counted, too; None if the runner can get away for ever behind it.
        """
        if self.catches(stand, place):
            return 1
        further = greatest_rank([self.rows()[stand][step] for step in bits_of(self.steps[stand][place])])
        return None if further is None else further + 1

    def standings(self):
        """Return the dict from all standings in which the runner is not caught to where they are counted from 0."""
        if self._standings is None:
            self._standings = {(stand, name): (at, place)
                               for at, stand in enumerate(self.stands) for place, name in enumerate(self.names)
                               if not self.catches(at, place)}
        return self._standings


def one_guard(web):
    """Return the game of one guard in a web; it is made once for each web."""
    if web.kept("guard") is None:
        sights = web.sights()
        ways = [bits_of(sight) for sight in sights]
        web.keep("guard", Game(web.places, web.places, ways, _single_bits(sights), [sights] * len(sights)))
    return web.kept("guard")


def _single_bits(sights):
    return [1 << place for place in range(len(sights))]


def two_guards(web):
    """Return the game of two guards in a web; it is made once for each web."""
    if web.kept("guards") is None:
        sights = web.sights()
        posts = all_posts(len(sights), 2)
        stands = tuple([(web.places[one], web.places[other]) for one, other in posts])
        held = [united(_single_bits(sights), post) for post in posts]
        web.keep("guards", Game(web.places, stands, ways_of_posts(sights, posts), held, [sights] * len(posts)))
    return web.kept("guards")


def paced_guard(web, pace, speed):
    """Return the game of a guard of a pace against a runner of a speed; it is made once for each web."""
    sights = web.sights()
    # No place is as many ties away as there are places: who can move farther can do no more.
    pace = min(pace, len(sights))
    speed = min(speed, len(sights))
    key = ("pace", pace, speed)
    if web.kept(key) is None:
        ways = [bits_of(spread(sights, guard, pace, 0)) for guard in range(len(sights))]
        web.keep(key, Game(web.places, web.places, ways, _single_bits(sights), _all_runs(web, speed)))
    return web.kept(key)


def _all_runs(web, speed):
    """Return the list: for each place of the guard the tuple of what a runner of a speed can move to."""
    key = ("runs", speed)
    if web.kept(key) is None:
        places = range(len(web.places))
        web.keep(key, [tuple([runs_of(web, guard, runner, speed) for runner in places]) for guard in places])
    return web.kept(key)


def runs_of(web, guard, runner, speed):
    """Return the places to which a runner of a speed can move; none if it is caught."""
    return 0 if guard == runner else spread(web.sights(), runner, speed, 1 << guard)
