"""Mappings of one web to another one, and webs with cores that are alike."""

from cornerturn.bits import bits_of
from cornerturn.orders import a_core
from cornerturn.webs import is_place


def a_mapping(first, second):
    """Return a mapping of a web to another one, None if there is none."""
    signs = _signs(first.sights())
    others = _signs(second.sights())
    if sorted(signs) != sorted(others):
        return None
    choices = {at: _where(others, sign) for at, sign in enumerate(signs)}
    found = _mapped(first.sights(), second.sights(), choices)
    if found is None:
        return None
    return {place: second.places[found[at]] for at, place in enumerate(first.places)}


def _signs(sights):
    """Return the list of what tells the places of a web from one another, whatever their names and sequence.

    For each place: whether it sees a place, and how many places both of them see, for all places.
    """
    return [sorted([(sight >> at & 1, len(bits_of(sight & other))) for at, other in enumerate(sights)])
            for sight in sights]


def _where(signs, wanted):
    return sum([1 << at for at, sign in enumerate(signs) if sign == wanted])


def _mapped(sights, others, choices):
    """Return a dict from each place of choices to one of them that makes a mapping, None if there is none."""
    if not choices:
        return {}
    # The place with the fewest choices goes first: what can't be is found soon then.
    place = min(choices, key=lambda at: len(bits_of(choices[at])))
    for chosen in bits_of(choices[place]):
        rest = {at: _narrowed(choices[at], others[chosen], chosen, sights[place] >> at & 1)
                for at in choices if at != place}
        found = _mapped(sights, others, rest)
        if found is not None:
            found[place] = chosen
            return found
    return None


def _narrowed(choice, sight, chosen, tied):
    """Return what a choice leaves beside a chosen place: what that one sees, or what it does not see."""
    if tied:
        return choice & sight & ~(1 << chosen)
    return choice & ~sight


def is_mapping(first, second, value):
    """Tell whether any value is a mapping of a web to another one."""
    if not isinstance(value, dict) or len(value) != len(first.places) or len(value) != len(second.places):
        return False
    if not all([place in value and is_place(second, value[place]) for place in first.places]):
        return False
    if len(set(list(value.values()))) != len(value):
        return False
    return all([(other in first.sees(place)) == (value[other] in second.sees(value[place]))
                for place in value for other in value])


def same_core(first, second):
    """Tell whether the cores of two webs are alike."""
    return a_mapping(_core_web(first), _core_web(second)) is not None


def _core_web(web):
    core = a_core(web)
    return web.without([place for place in web.places if place not in core])
