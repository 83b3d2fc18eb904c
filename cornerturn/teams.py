"""Teams of two guards: their posts, ranks and plans, and the ways out of a runner."""

from cornerturn.errors import WebError
from cornerturn.escapes import an_escape, is_escape
from cornerturn.games import two_guards
from cornerturn.planning import best_plan, turns_of_plan
from cornerturn.webs import check_place


class BadPost(WebError):
    """A value is not a post of the web."""

    def __init__(self, value):
        self.value = value


def _check_post(web, value):
    if value not in two_guards(web).stands:
        raise BadPost(value)


def posts(web):
    """Return the list of all posts of a web, in its sequence."""
    return list(two_guards(web).stands)


def seen_posts(web, post):
    """Return the list of the posts that a post sees, in the web's sequence."""
    _check_post(web, post)
    game = two_guards(web)
    return [game.stands[way] for way in game.ways[game.stands.index(post)]]


def team_rank(web, post, runner):
    """Return the rank of a team's standing, None if the runner can get away for ever."""
    _check_post(web, post)
    check_place(web, runner)
    return two_guards(web).rank(post, runner)


def team_ranks(web):
    """Return the dict from all team's standings of a web to their ranks."""
    return two_guards(web).ranks()


def team_starts(web):
    """Return the list of the posts from which two guards need no more turns than the web needs with them."""
    return two_guards(web).starts()


def team_plan(web):
    """Return a good team's plan with as few turns as two guards need, None if they are not enough."""
    return best_plan(two_guards(web))


def team_plan_turns(web, value):
    """Return the turns of any value that is a good team's plan, None for all other values."""
    return turns_of_plan(two_guards(web), value)


def team_way_out(web):
    """Return a team's way out of a web, None if two guards are enough."""
    return an_escape(two_guards(web))


def is_team_way_out(web, value):
    """Tell whether any value is a team's way out of a web."""
    return is_escape(two_guards(web), value)
