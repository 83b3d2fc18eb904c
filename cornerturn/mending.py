"""Webs that are mended: ties to add, or places to shut, so that one guard is enough."""

from itertools import combinations

from cornerturn.bits import bits_of
from cornerturn.taking import is_enough


def ties_to_add(web):
    """Return a list of as few new ties as possible with which one guard is enough."""
    sights = web.sights()
    whole = web.whole()
    couples = [(one, other) for one in range(len(sights)) for other in bits_of(whole & ~sights[one]) if one < other]
    # One guard is never enough for several parts, and a tie makes one part of two at most; with all ties one is enough.
    for many in range(len(web.parts()) - 1, len(couples) + 1):
        for ties in combinations(couples, many):
            if is_enough(_with_ties(sights, ties), whole):
                return [(web.places[one], web.places[other]) for one, other in ties]


def _with_ties(sights, ties):
    """Return the list of what all places see when some more are tied."""
    found = list(sights)
    for one, other in ties:
        found[one] |= 1 << other
        found[other] |= 1 << one
    return found


def places_to_shut(web):
    """Return a list of as few places as possible without which one guard is enough."""
    sights = web.sights()
    whole = web.whole()
    # One guard is enough for one place, so an answer is found.
    for many in range(len(sights)):
        for shut in combinations(range(len(sights)), many):
            if is_enough(sights, whole - sum([1 << at for at in shut])):
                return [web.places[at] for at in shut]
