"""The errors of the package; each one keeps the very value that it is given."""


class WebError(ValueError):
    """Anything that the package finds wrong with what it is given."""


class BadPlaces(WebError):
    """A value is not what the places of a web, or some of them, must be."""

    def __init__(self, value):
        self.value = value


class BadTies(WebError):
    """A value is neither a list nor a tuple of ties."""

    def __init__(self, value):
        self.value = value


class BadTie(WebError):
    """An entry among ties is no tie, or is one that stands before it already."""

    def __init__(self, position):
        self.position = position


class NoPlace(WebError):
    """A value is not a place of the web."""

    def __init__(self, value):
        self.value = value


class BadPlan(WebError):
    """A value is not a plan of the kind that is asked for."""

    def __init__(self, value):
        self.value = value


class BadPiece(WebError):
    """A value is not a piece."""

    def __init__(self, value):
        self.value = value


class HasGlue(WebError):
    """A piece has a glue in it where none may be."""

    def __init__(self, piece):
        self.piece = piece


class TooMany(WebError):
    """There are more places than a web can have."""

    def __init__(self, count):
        self.count = count


class BadMove(WebError):
    """A value can not be chosen or moved to now."""

    def __init__(self, value):
        self.value = value


class TooFar(WebError):
    """There are not so many moves and choices to take back."""

    def __init__(self, count):
        self.count = count


class BadText(WebError):
    """A text is not one of a web from this line on."""

    def __init__(self, line):
        self.line = line
