"""Taking overlooked places away, reckoned on places as bits."""

from cornerturn.bits import bits_of


def overlookers_among(sights, left, place):
    """Return the list of the other places of left by which a place is overlooked among left."""
    seen = sights[place] & left
    # A place sees itself, so only places that it sees can overlook it.
    return [other for other in bits_of(seen) if other != place and seen & sights[other] == seen]


def first_step(sights, left, free):
    """Return (place, overlooker) for the first place of free that is overlooked among left, None if none is."""
    for place in bits_of(free):
        found = overlookers_among(sights, left, place)
        if found:
            return place, found[0]
    return None


def take_away(sights, left, kept):
    """Take away overlooked places of left that are not kept, as long as there are any; return (steps, the rest).

    Which one goes first does not matter: another one that could have gone still can go afterwards, or it sees just
    what the one that went saw, and then each of these two can stand for the other one in all that follows.
    """
    steps = []
    step = first_step(sights, left, left & ~kept)
    while step is not None:
        steps.append(step)
        left &= ~(1 << step[0])
        step = first_step(sights, left, left & ~kept)
    return steps, left


def is_enough(sights, left):
    """Tell whether one guard is enough for some places: whether they can be taken away but for one."""
    _, rest = take_away(sights, left, 0)
    return rest & (rest - 1) == 0
