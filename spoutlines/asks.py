"""Asks (points 12 to 17 of the document)."""

from spoutlines.arithmetic import is_below, plus, quotient, times
from spoutlines.bounds import bound_value, is_row_distance, keeps, keeps_upright, kind_of, parts_of, row_at
from spoutlines.errors import InvalidAsk, InvalidAsks, InvalidDistance
from spoutlines.jets import check_above_zero, check_head, check_jet, head_of
from spoutlines.numbers import check_fraction, is_fraction
from spoutlines.places import distance_of, grown, is_place, sheared

MOST_ASKS = 8


def is_above_zero(value):
    return is_fraction(value) and value[0] > 0


def is_ask_of_one(word, value):
    """Whether this is an ask of a word and one value beside it."""
    if word in ("over", "under"):
        return is_place(value)
    return word in ("low", "quick", "slow") and is_above_zero(value)


def is_ask_of_two(word, value, other):
    """Whether this is an ask of a word and two values beside it."""
    if word == "roof":
        return is_place(value) and is_place(other) and is_below(distance_of(value), distance_of(other))
    return word in ("dives", "climbs") and is_fraction(value) and value[0] >= 0 and is_fraction(other)


def is_ask(value):
    if not isinstance(value, tuple) or len(value) not in (2, 3) or not isinstance(value[0], str):
        return False
    if len(value) == 2:
        return is_ask_of_one(value[0], value[1])
    return is_ask_of_two(value[0], value[1], value[2])


def check_ask(value):
    if not is_ask(value):
        raise InvalidAsk(value)


def check_asks(value):
    if not isinstance(value, tuple):
        raise InvalidAsks(None)
    for index, ask in enumerate(value):
        if index == MOST_ASKS or not is_ask(ask):
            raise InvalidAsks(index)


def does(jet, ask):
    check_jet(jet)
    check_ask(ask)
    return keeps(jet, ask)


def does_all(jet, asks):
    check_jet(jet)
    check_asks(asks)
    return all([keeps(jet, ask) for ask in asks])


def is_good(jet, head, asks):
    """Whether the jet is of the head and does all asks."""
    check_jet(jet)
    check_head(head)
    return does_all(jet, asks) and not is_below(head, head_of(jet))


def bound_at(ask, slope):
    """Which bends do the ask with this slope: ("least", F), ("most", F), ("all", None) or ("none", None)."""
    check_ask(ask)
    check_fraction(slope)
    kind = kind_of(ask)
    if kind == "upright":
        return ("all", None) if keeps_upright(ask, slope) else ("none", None)
    return ("least" if kind == "lower" else "most", bound_value(ask, slope))


def bound_parts(ask):
    check_ask(ask)
    return parts_of(ask)


def row_of(ask, distance):
    """The row of the ask, for a roof and for `low` that at the distance."""
    check_ask(ask)
    if not is_row_distance(ask, distance):
        raise InvalidDistance(distance)
    return row_at(ask, distance)


def grown_ask(ask, fraction):
    """The ask that goes along with growing all places by the fraction."""
    check_ask(ask)
    check_above_zero(fraction)
    word = ask[0]
    if word in ("over", "under", "roof"):
        return (word,) + tuple([grown(place, fraction) for place in ask[1:]])
    if word in ("dives", "climbs"):
        return (word, times(ask[1], fraction), ask[2])
    return (word, times(ask[1], fraction) if word == "low" else quotient(ask[1], fraction))


def sheared_ask(ask, fraction):
    """The ask that goes along with shearing all places by the fraction."""
    check_ask(ask)
    check_fraction(fraction)
    word = ask[0]
    if word == "low":
        raise InvalidAsk(ask)
    if word in ("over", "under", "roof"):
        return (word,) + tuple([sheared(place, fraction) for place in ask[1:]])
    if word in ("dives", "climbs"):
        return (word, ask[1], plus(ask[2], fraction))
    return ask
