"""Texts of webs: a line for each place, and then a line for each tie."""

from cornerturn.errors import BadText
from cornerturn.webs import MOST_PLACES, Web, is_name


def web_text(web):
    """Return the text of a web."""
    lines = [f"place {place}" for place in web.places] + [f"tie {one} {other}" for one, other in web.ties]
    return "\n".join(lines)


def read_web(text):
    """Return the web with a text; raise BadText for any value that is no text of a web."""
    if not isinstance(text, str):
        raise BadText(1)
    places = []
    ties = []
    # Ties are the same whichever of their places stands first.
    tied = {}
    for number, line in enumerate(text.split("\n"), start=1):
        words = line.split(" ")
        if not ties and _is_next_place(places, words):
            places.append(words[1])
        elif _is_next_tie(places, tied, words):
            _, one, other = words
            ties.append((one, other))
            tied[one, other] = tied[other, one] = True
        else:
            raise BadText(number)
    return Web(places, ties)


def _is_next_place(places, words):
    if len(words) != 2 or words[0] != "place" or len(places) == MOST_PLACES:
        return False
    return is_name(words[1]) and words[1] not in places


def _is_next_tie(places, tied, words):
    if len(words) != 3 or words[0] != "tie":
        return False
    _, one, other = words
    return one in places and other in places and one != other and (one, other) not in tied
