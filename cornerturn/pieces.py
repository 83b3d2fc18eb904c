"""Pieces: webs of any size that are built from rows, rings and full ones."""

from cornerturn.errors import BadPiece, HasGlue, TooMany
from cornerturn.webs import LETTERS, MOST_PLACES, Web

DEEPEST = 6
LEAST_NUMBERS = {"row": 1, "ring": 3, "full": 1}
BUILDERS = ("glue", "join", "times")


def is_piece(value):
    """Tell whether any value is a piece."""
    return _is_piece(value, DEEPEST)


def _is_piece(value, depth):
    """Tell whether any value is a piece that is at most so many deep."""
    if depth == 0 or not isinstance(value, tuple) or not value or not isinstance(value[0], str):
        return False
    if value[0] in LEAST_NUMBERS:
        return len(value) == 2 and _is_number(value[1]) and value[1] >= LEAST_NUMBERS[value[0]]
    if value[0] not in BUILDERS or len(value) != 3:
        return False
    return _is_piece(value[1], depth - 1) and _is_piece(value[2], depth - 1)


def _is_number(value):
    return isinstance(value, int) and not isinstance(value, bool)


def _check(value):
    if not is_piece(value):
        raise BadPiece(value)


def places_of(piece):
    """Return the number of the places of a piece."""
    _check(piece)
    places, _ = _counts(piece)
    return places


def ties_of(piece):
    """Return the number of the ties of a piece."""
    _check(piece)
    _, ties = _counts(piece)
    return ties


def _counts(piece):
    """Return (the number of places, the number of ties)."""
    word = piece[0]
    if word in LEAST_NUMBERS:
        return piece[1], _ties_of_simple(word, piece[1])
    places, ties = _counts(piece[1])
    more_places, more_ties = _counts(piece[2])
    if word == "glue":
        return places + more_places - 1, ties + more_ties
    if word == "join":
        return places + more_places, ties + more_ties + places * more_places
    # A tie of one piece is there for each place of the other one, and two ties go together in two ways.
    return places * more_places, places * more_ties + ties * more_places + 2 * ties * more_ties


def _ties_of_simple(word, many):
    if word == "row":
        return many - 1
    if word == "ring":
        return many
    return many * (many - 1) // 2


def enough(piece):
    """Tell whether one guard is enough for a piece."""
    _check(piece)
    return _is_enough(piece)


def _is_enough(piece):
    word = piece[0]
    if word in LEAST_NUMBERS:
        return word != "ring" or piece[1] == 3
    if word == "join":
        # If one of both can be taken away but for one place, that place overlooks all others.
        return _is_enough(piece[1]) or _is_enough(piece[2])
    return _is_enough(piece[1]) and _is_enough(piece[2])


def turns_of(piece):
    """Return the turns that a piece without glue needs, None if one guard is not enough."""
    _check(piece)
    if _has_glue(piece):
        raise HasGlue(piece)
    return _turns_of(piece)


def _has_glue(piece):
    if piece[0] in LEAST_NUMBERS:
        return False
    return piece[0] == "glue" or _has_glue(piece[1]) or _has_glue(piece[2])


def _turns_of(piece):
    word = piece[0]
    if word in LEAST_NUMBERS:
        return _turns_of_simple(word, piece[1])
    turns = [_turns_of(part) for part in (piece[1], piece[2])]
    if word == "times":
        # A guard who has come to the runner's place in one of both follows it there until it is at both.
        return None if None in turns else max(turns)
    # The guard stays in one of both, where the runner must stay, too: all of the other one is seen from there.
    least = min([turn for turn in turns if turn is not None], default=None)
    return None if least is None else max(least, 1)


def _turns_of_simple(word, many):
    if word == "row":
        return many // 2
    if word == "ring":
        return 1 if many == 3 else None
    return min(many - 1, 1)


def web_of(piece):
    """Return the web of a piece, its places named a, b, c, .. in their sequence."""
    _check(piece)
    count, _ = _counts(piece)
    if count > MOST_PLACES:
        raise TooMany(count)
    names = LETTERS[:count]
    return Web(list(names), [(names[one], names[other]) for one, other in _ties(piece)])


def _ties(piece):
    """Return the list of the ties of a piece, its places counted from 0: tuples of the lesser and the greater one."""
    word = piece[0]
    if word in LEAST_NUMBERS:
        return _simple_ties(word, piece[1])
    places, _ = _counts(piece[1])
    more, _ = _counts(piece[2])
    if word == "times":
        return _ties_of_times(_seen_couples(piece[1]), _seen_couples(piece[2]), more)
    first = places - 1 if word == "glue" else places
    found = _ties(piece[1]) + [(first + one, first + other) for one, other in _ties(piece[2])]
    if word == "join":
        found += [(one, places + other) for one in range(places) for other in range(more)]
    return found


def _simple_ties(word, many):
    if word == "full":
        return [(one, other) for other in range(many) for one in range(other)]
    found = [(place, place + 1) for place in range(many - 1)]
    return [*found, (0, many - 1)] if word == "ring" else found


def _seen_couples(piece):
    """Return the list of all tuples of two places of which the first one sees the second one."""
    places, _ = _counts(piece)
    ties = _ties(piece)
    return [(place, place) for place in range(places)] + ties + [(other, one) for one, other in ties]


def _ties_of_times(couples, others, more):
    """Return the ties of two pieces' product from what is seen in both, the second one having so many places."""
    found = [(one * more + here, other * more + there) for one, other in couples for here, there in others]
    return [(one, other) for one, other in found if one < other]
