"""Several guards: in how many turns they surely catch the runner, and how many guards are enough."""

from cornerturn.bits import bits_of, united
from cornerturn.reckoning import lost_runners


def turns_with(web, many):
    """Return the turns that a web needs with a number of guards, None if they are not enough."""
    sights = web.sights()
    if many >= len(sights):
        return 0
    posts = _posts(len(sights), many)
    # Guards who do not stand everywhere need a turn, in which they catch whom they see.
    won = [united(sights, post) for post in posts]
    if web.whole() in won:
        return 1
    return _further_turns(web, posts, won)


def _posts(places, many):
    """Return the list of all sorted tuples of so many of the places 0, 1, ..; a place may stand in one again."""
    posts = [()]
    for _ in range(many):
        posts = [(*post, place) for post in posts for place in range(post[-1] if post else 0, places)]
    return posts


def _further_turns(web, posts, won):
    """Return the turns until one of the posts wins against all runners, where each wins against won in one turn."""
    sights = web.sights()
    seen = _seen_posts(sights, posts)
    turns = 1
    while web.whole() not in won:
        # A runner who is caught is among the lost: whatever it sees is seen by the guard who is there.
        lost = [lost_runners(sights, runners) for runners in won]
        later = [united(lost, ways) for ways in seen]
        if later == won:
            return None
        won = later
        turns += 1
    return turns


def _seen_posts(sights, posts):
    """Return the list of the positions of the posts to which the guards of each post can move."""
    position = {post: at for at, post in enumerate(posts)}
    return [[position[post] for post in _moved(sights, start)] for start in posts]


def _moved(sights, post):
    """Return the sorted list of the posts to which the guards of a post can move."""
    found = [()]
    for place in post:
        found = sorted({tuple(sorted((*ways, step))) for ways in found for step in bits_of(sights[place])})
    return found


def fewest(web):
    """Return the least number of guards that are enough for a web."""
    # No guard can leave a part of the web, so each part needs as many as it needs alone.
    return sum([_fewest_of_part(_part_web(web, part)) for part in web.parts()])


def _part_web(web, part):
    return web.without([place for place in web.places if place not in part])


def _fewest_of_part(web):
    many = 1
    while turns_with(web, many) is None:
        many += 1
    return many
