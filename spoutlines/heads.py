"""Least heads, and how far the jets of a head come (points 25 to 27 of the document)."""

from spoutlines.arithmetic import ONE, ZERO, is_below, minus, negative, plus, quotient, times
from spoutlines.asks import check_ask, check_asks
from spoutlines.bounds import opposite_of
from spoutlines.errors import InvalidAsk
from spoutlines.jets import check_head
from spoutlines.numbers import check_fraction, compare, surd_of
from spoutlines.places import check_distance, check_place, distance_of, height_of
from spoutlines.polynomials import as_surd, is_within, least_surd, surd_at, surd_quotient, surd_sign, zeros
from spoutlines.regions import bounds_from_zero, bounds_of, is_sure, slopes_left, top_of
from spoutlines.stretches import later_begin

# Four times the head of a jet, times its bend.
SPEED = ((1, 1), (0, 1), (1, 1))


def turning_slope(line):
    """The slope of the jet with the least head of those whose bends are on a line that does not fall."""
    constant, growth, _ = line
    if growth == ZERO:
        return as_surd(ZERO)
    inside = plus(times(constant, constant), times(growth, growth))
    return surd_of(quotient(negative(constant), growth), quotient(ONE, growth), inside)


def heads_on(low, high, line):
    """Heads of jets with bends on the line and slopes from low up to high, the least one among them."""
    slopes = [end for end in (low, high) if end is not None]
    turn = turning_slope(line)
    if is_within(turn, low, high):
        slopes.append(turn)
    four = (times((4, 1), line[0]), times((4, 1), line[1]), ZERO)
    return [surd_quotient(SPEED, four, slope) for slope in slopes if surd_sign(surd_at(line, slope)) > 0]


def begin_above_zero(lines):
    """The slope beyond which all of these lines are above 0, none of which falls; None for endless."""
    begin = None
    for _, line in lines:
        for zero in zeros(line):
            begin = later_begin(begin, zero)
    return begin


def least_of_heads(asks):
    """What least_head tells; nothing is checked here."""
    bounds = bounds_of(asks)
    slopes = slopes_left(bounds)
    if slopes is None:
        return None
    if not bounds.lines:
        return (as_surd(ZERO), False)
    begin, high = begin_above_zero(bounds.lines), slopes[1]
    if begin is not None and high is not None and compare(begin, high) >= 0:
        return None
    found = []
    for part_low, part_high, line in top_of(bounds, (later_begin(slopes[0], begin), high)):
        found.extend(heads_on(part_low, part_high, line))
    return (least_surd(found), True)


def least_head(asks):
    """The least head for which some jet does the asks, a surd, and whether it is reached; None if there is none."""
    check_asks(asks)
    return least_of_heads(asks)


def head_through(place):
    """The least head of a jet through the place, a surd."""
    check_place(place)
    distance, height = distance_of(place), height_of(place)
    inside = plus(times(distance, distance), times(height, height))
    return surd_of(times((1, 2), height), (1, 2), inside)


def reach(head, distance):
    """The greatest height to which jets of the head come at the distance."""
    check_head(head)
    check_distance(distance)
    return minus(head, quotient(times(distance, distance), times((4, 1), head)))


def farthest(head, height):
    """The greatest distance, a surd, at which some jet of the head has the height; None if there is none."""
    check_head(head)
    check_fraction(height)
    if not is_below(height, head):
        return None
    return surd_of(ZERO, (2, 1), times(head, minus(head, height)))


def all_jets_do(asks, ask):
    """Whether all jets that do the asks, whatever their heads, do the ask."""
    if least_of_heads(asks) is None:
        return True
    # If jets with bends above 0 do all asks, those with the bend 0 that do them are limits of these.
    bounds = bounds_from_zero(asks)
    return is_sure(bounds, slopes_left(bounds), ask)


def sure_up_to(asks, ask):
    """Up to which head the ask is sure: ("all", None), ("none", None) or ("up to", SURD)."""
    check_asks(asks)
    check_ask(ask)
    if ask[0] in ("roof", "low"):
        raise InvalidAsk(ask)
    if all_jets_do(asks, ask):
        return ("all", None)
    with_ask = least_of_heads(asks + (ask,))
    end, is_reached = least_of_heads(asks + (opposite_of(ask),))
    if with_ask is None or not is_reached or compare(end, with_ask[0]) < 0:
        return ("none", None)
    return ("up to", end)
