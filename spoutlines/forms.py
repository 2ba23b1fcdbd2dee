"""The forms of what is said about the good jets of a head and asks, in wishes and claims (points 40 and 41).

Such a form is a word and what belongs to it, the rest.
"""

from spoutlines.asks import MOST_ASKS, is_above_zero, is_ask
from spoutlines.grounds import is_edge_index, is_ground
from spoutlines.guards import are_guards, place_not_nearer
from spoutlines.places import is_place


def is_head(value):
    return is_above_zero(value)


def are_asks(value):
    return isinstance(value, tuple) and len(value) <= MOST_ASKS and all([is_ask(ask) for ask in value])


def are_nearer_guards(value, place):
    return are_guards(value) and place_not_nearer(value, place) is None


def has_form(word, rest):
    """Whether a tuple, whatever its values are, may be the rest beside this word, a string."""
    if word in ("fits", "no jet"):
        return len(rest) == 0
    if word in ("sure", "not sure"):
        return len(rest) == 1 and is_ask(rest[0])
    if word in ("wet", "dry"):
        return len(rest) == 1 and is_place(rest[0])
    if word in ("guarded", "let by"):
        return len(rest) == 2 and is_place(rest[0]) and are_nearer_guards(rest[1], rest[0])
    if word in ("struck", "unstruck"):
        return len(rest) == 2 and is_ground(rest[0]) and is_edge_index(rest[0], rest[1])
    return False
