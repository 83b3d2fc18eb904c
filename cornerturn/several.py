"""Several guards: in how many turns they surely catch the runner, and how many guards are enough."""

from cornerturn.bits import united
from cornerturn.posting import all_posts, ways_of_posts
from cornerturn.reckoning import lost_runners


def turns_with(web, many):
    """Return the turns that a web needs with a number of guards, None if they are not enough."""
    sights = web.sights()
    if many >= len(sights):
        return 0
    posts = all_posts(len(sights), many)
    # Guards who do not stand everywhere need a turn, in which they catch whom they see.
    won = [united(sights, post) for post in posts]
    if web.whole() in won:
        return 1
    return _further_turns(web, ways_of_posts(sights, posts), won)


def _further_turns(web, ways, won):
    """Return the turns until one of the posts wins against all runners, where each wins against won in one turn."""
    turns = 1
    while web.whole() not in won:
        # A runner who is caught is among the lost: whatever it sees is seen by the guard who is there.
        lost = [lost_runners(web.sights(), runners) for runners in won]
        later = [united(lost, seen) for seen in ways]
        if later == won:
            return None
        won = later
        turns += 1
    return turns


def fewest(web):
    """Return the least number of guards that are enough for a web."""
    # No guard can leave a part of the web, so each part needs as many as it needs alone.
    return sum([_fewest_of_part(_part_web(web, part)) for part in web.parts()])


def _part_web(web, part):
    return web.without([place for place in web.places if place not in part])


def _fewest_of_part(web):
    many = 1
    while turns_with(web, many) is None:
        many += 1
    return many
