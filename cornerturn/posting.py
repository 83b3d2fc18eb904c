"""Posts: where several guards are, as sorted tuples of places that are counted from 0."""

from cornerturn.bits import bits_of


def all_posts(places, many):
    """Return the list of all posts of so many guards at so many places; several may be at one place."""
    posts = [()]
    for _ in range(many):
        posts = [(*post, place) for post in posts for place in range(post[-1] if post else 0, places)]
    return posts


def ways_of_posts(sights, posts):
    """Return the list of the positions of the posts to which the guards of each post can move."""
    position = {post: at for at, post in enumerate(posts)}
    return [[position[post] for post in _moved(sights, start)] for start in posts]


def _moved(sights, post):
    """Return the sorted list of the posts to which the guards of a post can move."""
    found = [()]
    for place in post:
        found = sorted({tuple(sorted((*ways, step))) for ways in found for step in bits_of(sights[place])})
    return found
