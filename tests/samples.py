"""Webs and values that several tests use."""

from itertools import combinations

from cornerturn.chases import Chase
from cornerturn.errors import BadTie
from cornerturn.teamchases import TeamChase
from cornerturn.webs import Web

LETTERS = "abcdefghijkl"


def row_web():
    return Web(["a", "b", "c"], [("a", "b"), ("c", "b")])


def ring_web():
    return Web(["a", "b", "c", "d"], [("a", "b"), ("b", "c"), ("c", "d"), ("d", "a")])


def long_row(many):
    names = LETTERS[:many]
    return Web(list(names), list(zip(names, names[1:])))


def full_web(many):
    names = LETTERS[:many]
    return Web(list(names), list(combinations(names, 2)))


def all_webs(many):
    """Yield all webs of a number of places."""
    names = LETTERS[:many]
    couples = list(combinations(names, 2))
    for bits in range(2 ** len(couples)):
        yield Web(list(names), [tie for at, tie in enumerate(couples) if bits >> at & 1])


def some_webs(many, count):
    """Yield webs of a number of places, mixed but the same ones in each run."""
    names = LETTERS[:many]
    couples = list(combinations(names, 2))
    state = 12345
    for at in range(count):
        ties = []
        for tie in couples:
            state = (state * 1103515245 + 12345) % 2 ** 31
            if (state >> 16) % 6 <= at % 5:
                ties.append(tie)
        yield Web(list(names), ties)


def can_be_taken_apart(web):
    """Tell whether one place is left when overlooked places are taken away (point [5])."""
    left = list(web.places)
    sees = {place: set(web.sees(place)) for place in left}
    while True:
        for place in left:
            if any(other != place and sees[place] & set(left) <= sees[other] for other in left):
                left.remove(place)
                break
        else:
            return len(left) == 1


def ring_of(many):
    names = LETTERS[:many]
    return long_row(many).tied([(names[-1], names[0])])


def web_of_parts(*parts):
    """Return a web of rings and rows: a number n > 2 is a ring of n places, and 1 or 2 a row."""
    names, ties, at = LETTERS[:sum(parts)], [], 0
    for many in parts:
        part = names[at:at + many]
        ties += list(zip(part, part[1:]))
        if many > 2:
            ties.append((part[-1], part[0]))
        at += many
    return Web(list(names), ties)


def opposite(web):
    """Return the web in which just those places are tied that are not tied in a web."""
    couples = combinations(web.places, 2)
    return Web(web.places, [(one, other) for one, other in couples if other not in web.sees(one)])


def renamed(web, names, order):
    """Return a web with other names, its places in another order (a list of their positions), ties turned round."""
    name = dict(zip(web.places, names))
    ties = [(name[other], name[one]) for one, other in reversed(web.ties)]
    return Web([name[web.places[at]] for at in order], ties)


def turned(web):
    """Return an equal web with its places in another sequence than that of their names."""
    return Web([*web.places[1::2], *web.places[::2]], [(other, one) for one, other in web.ties[::-1]])


def turned_webs():
    return [turned(web) for web in (long_row(6), ring_of(7), full_web(4), web_of_parts(3, 2), web_of_parts(4, 1, 1))]


def standings_of(web):
    """Return the list of all tuples of two different places."""
    return [(guard, runner) for guard in web.places for runner in web.places if guard != runner]


def looks(web):
    """Return what can be seen of a web."""
    return web.places, web.ties, [web.sees(place) for place in web.places], web.parts()


def no_names():
    """Return values to stand in the place of a name; they equal no name."""
    return [None, True, 0, "", "q", "ab", [], ["a"], {}, {"a": 1}, ("a",), ("a", "b"), [["a"]], Web(["a"])]


def deep(depth):
    value = []
    for _ in range(depth):
        value = [value]
    return value


def deep_tuple(depth):
    value = ()
    for _ in range(depth):
        value = (value,)
    return value


def any_values():
    """Return values of all kinds; none is a place, a list or tuple of places, or a tie."""
    return [
        0, 1, -1, 10 ** 59, True, False, None,
        "", "A", "a b", "z9", "~", "\n", "a\n", "abcdefghi", "zz",
        {}, {"a": "b"}, {("a", "b"): 1}, {"a": {"b": [None]}},
        deep(29), deep_tuple(29), [[]], [()], ((),), [{}], [None], [True], (False,), [0], (1,),
        [["a"]], (("a",),), [{"a": 1}],
        Web(["a"]), [Web(["a"])], (Web(["a"]), Web(["b"])), BadTie(0), [BadTie(0)],
        Chase(Web(["a"])), [Chase(Web(["a"]))], (Chase(Web(["a"])), "a"), TeamChase(Web(["a"])),
    ]


class Mixed:
    """Numbers that are mixed but the same ones in each run."""

    def __init__(self):
        self.state = 2026

    def below(self, many):
        self.state = (self.state * 1103515245 + 12345) % 2 ** 31
        return (self.state >> 16) % many

    def of(self, values):
        return values[self.below(len(values))]
