"""Ways out: the moves by which a runner gets away from one guard for ever."""

from cornerturn.escapes import an_escape, is_escape
from cornerturn.games import one_guard


def way_out(web):
    """Return a way out of a web, None if one guard is enough."""
    return an_escape(one_guard(web))


def is_way_out(web, value):
    """Tell whether any value is a way out of a web."""
    return is_escape(one_guard(web), value)
