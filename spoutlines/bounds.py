"""The bounds and the rows of single asks (points 13, 14, 16 and 18 of the document). Nothing is checked here."""

from spoutlines.arithmetic import ONE, ZERO, is_below, minus, negative, plus, quotient, times
from spoutlines.numbers import is_fraction
from spoutlines.places import distance_of, height_of
from spoutlines.polynomials import NOUGHT, value_at

OPPOSITES = {
    "over": "under", "under": "over", "dives": "climbs", "climbs": "dives", "quick": "slow", "slow": "quick",
}


def kind_of(ask):
    """`lower`, `upper` or `upright`."""
    word = ask[0]
    if word in ("dives", "climbs") and ask[1] == ZERO:
        return "upright"
    return "upper" if word in ("over", "climbs", "quick") else "lower"


def opposite_of(ask):
    """The opposite of an ask that is neither `roof` nor `low`."""
    return (OPPOSITES[ask[0]],) + ask[1:]


def straight_way(place, other):
    """(k, m): from the one place to the other one the straight way has the height k + m * x at the distance x."""
    distance, height = distance_of(place), height_of(place)
    rise = quotient(minus(height_of(other), height), minus(distance_of(other), distance))
    return (minus(height, times(rise, distance)), rise)


def line_at(distance, height):
    """(x * SLOPE - y) / (x * x): at each slope the bend of the jet that comes to this height at this distance."""
    return (negative(quotient(height, times(distance, distance))), quotient(ONE, distance), ZERO)


def roof_parts(near_place, far_place):
    """The parts of the bound of a roof."""
    start, rise = straight_way(near_place, far_place)
    near_end, far_end = distance_of(near_place), distance_of(far_place)
    far_line = line_at(far_end, height_of(far_place))
    near_line = line_at(near_end, height_of(near_place))
    if start[0] <= 0:
        joint = plus(rise, plus(quotient(start, near_end), quotient(start, far_end)))
        return ((None, joint, far_line), (joint, None, near_line))
    twice = times((2, 1), start)
    low, high = plus(rise, quotient(twice, far_end)), plus(rise, quotient(twice, near_end))
    # (SLOPE - m) * (SLOPE - m) / (4 * k)
    square = quotient(ONE, times((2, 1), twice))
    arc = (times(square, times(rise, rise)), negative(quotient(rise, twice)), square)
    return ((None, low, far_line), (low, high, arc), (high, None, near_line))


def low_parts(height):
    """The parts of the bound of `low`."""
    return ((None, ZERO, NOUGHT), (ZERO, None, (ZERO, ZERO, quotient((1, 4), height))))


def parts_of(ask):
    """The parts of the bound of an ask; () for an upright one."""
    word = ask[0]
    if word == "roof":
        return roof_parts(ask[1], ask[2])
    if word == "low":
        return low_parts(ask[1])
    if word in ("over", "under"):
        line = line_at(distance_of(ask[1]), height_of(ask[1]))
    elif word in ("quick", "slow"):
        line = (ask[1], ZERO, ZERO)
    elif ask[1] == ZERO:
        return ()
    else:
        growth = quotient((1, 2), ask[1])
        line = (negative(times(growth, ask[2])), growth, ZERO)
    return ((None, None, line),)


def bound_value(ask, slope):
    """The number of the bound of an ask that is not upright."""
    parts = parts_of(ask)
    at = 0
    while parts[at][1] is not None and is_below(parts[at][1], slope):
        at += 1
    return value_at(parts[at][2], slope)


def keeps_upright(ask, slope):
    """Whether jets with this slope do an upright ask."""
    return not is_below(ask[2], slope) if ask[0] == "dives" else not is_below(slope, ask[2])


def keeps(jet, ask):
    """Whether the jet does the ask."""
    slope, bend = jet
    kind = kind_of(ask)
    if kind == "upright":
        return keeps_upright(ask, slope)
    bound = bound_value(ask, slope)
    return not is_below(bend, bound) if kind == "lower" else not is_below(bound, bend)


def is_row_distance(ask, value):
    """Whether a value, whatever it is, is a distance for which the ask has a row."""
    if not is_fraction(value):
        return False
    if ask[0] == "roof":
        return not is_below(value, distance_of(ask[1])) and not is_below(distance_of(ask[2]), value)
    if ask[0] == "low":
        return value[0] > 0
    return value == ZERO


def lower_row(ask, distance):
    """The row of an ask, or of its opposite, whichever is no upper one."""
    word = ask[0]
    if word in ("dives", "climbs"):
        return ((-1, 1), times((2, 1), ask[1]), ask[2])
    if word in ("quick", "slow"):
        return (ZERO, ONE, negative(ask[1]))
    if word == "roof":
        start, rise = straight_way(ask[1], ask[2])
        height = plus(start, times(rise, distance))
    elif word == "low":
        height = ask[1]
    else:
        distance, height = distance_of(ask[1]), height_of(ask[1])
    return (negative(distance), times(distance, distance), height)


def row_at(ask, distance):
    """The row of an ask, for a roof and for `low` that at the distance."""
    row = lower_row(ask, distance)
    if ask[0] in ("over", "climbs", "quick"):
        return (negative(row[0]), negative(row[1]), negative(row[2]))
    return row
