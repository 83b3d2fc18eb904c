"""Webs and values that several tests use."""

from itertools import combinations

from cornerturn.errors import BadTie
from cornerturn.webs import Web

LETTERS = "abcdefghijkl"


def row_web():
    return Web(["a", "b", "c"], [("a", "b"), ("c", "b")])


def ring_web():
    return Web(["a", "b", "c", "d"], [("a", "b"), ("b", "c"), ("c", "d"), ("d", "a")])


def long_row(many):
    names = LETTERS[:many]
    return Web(list(names), list(zip(names, names[1:])))


def full_web(many):
    names = LETTERS[:many]
    return Web(list(names), list(combinations(names, 2)))


def all_webs(many):
    """Yield all webs of a number of places."""
    names = LETTERS[:many]
    couples = list(combinations(names, 2))
    for bits in range(2 ** len(couples)):
        yield Web(list(names), [tie for at, tie in enumerate(couples) if bits >> at & 1])


def some_webs(many, count):
    """Yield webs of a number of places, mixed but the same ones in each run."""
    names = LETTERS[:many]
    couples = list(combinations(names, 2))
    state = 12345
    for at in range(count):
        ties = []
        for tie in couples:
            state = (state * 1103515245 + 12345) % 2 ** 31
            if (state >> 16) % 6 <= at % 5:
                ties.append(tie)
        yield Web(list(names), ties)


def deep(depth):
    value = []
    for _ in range(depth):
        value = [value]
    return value


def deep_tuple(depth):
    value = ()
    for _ in range(depth):
        value = (value,)
    return value


def any_values():
    """Return values of all kinds; none is a place, a list or tuple of places, or a tie."""
    return [
        0, 1, -1, 10 ** 59, True, False, None,
        "", "A", "a b", "z9", "~", "\n", "a\n", "abcdefghi", "zz",
        {}, {"a": "b"}, {("a", "b"): 1}, {"a": {"b": [None]}},
        deep(29), deep_tuple(29), [[]], [()], ((),), [{}], [None], [True], (False,), [0], (1,),
        [["a"]], (("a",),), [{"a": 1}],
        Web(["a"]), [Web(["a"])], (Web(["a"]), Web(["b"])), BadTie(0), [BadTie(0)],
    ]
