"""Streams, which are jets that leave spouts at points (points 36 and 37 of the document)."""

from spoutlines.arithmetic import is_whole, minus, negative, quotient, reduced, sign, sign_with_root, times
from spoutlines.errors import InvalidIndex, InvalidStream
from spoutlines.jets import is_jet
from spoutlines.numbers import check_fraction
from spoutlines.places import is_point
from spoutlines.polynomials import NOUGHT, as_surd, difference, is_within, surd_at, surd_sign, value_at, zeros
from spoutlines.stretches import common, order_of

FIRST_WORDS = {-1: "first", 0: "both", 1: "other"}


def is_stream(value):
    if not isinstance(value, tuple) or len(value) != 3:
        return False
    point, way, jet = value
    return is_point(point) and is_whole(way) and (way == 1 or way == -1) and is_jet(jet)


def check_stream(value):
    if not is_stream(value):
        raise InvalidStream(value)


def spout_of(stream):
    """How far to the right and how far up its spout is, fractions."""
    right, up, unit = stream[0]
    return (reduced(right, unit), reduced(up, unit))


def stretch_of(stream):
    """Where it has water, as a stretch of x."""
    begin = as_surd(spout_of(stream)[0])
    return (begin, None) if stream[1] == 1 else (None, begin)


def fall_of(stream):
    """The square of the time at which its water is at x, as a polynomial of x (point 37)."""
    begin, bend = spout_of(stream)[0], stream[2][1]
    return (times(bend, times(begin, begin)), times((-2, 1), times(bend, begin)), bend)


def water_of(stream):
    """The height of its water at x, as a polynomial of x."""
    begin, height = spout_of(stream)
    rise = times((stream[1], 1), stream[2][0])
    return difference((minus(height, times(rise, begin)), rise, (0, 1)), fall_of(stream))


def water_at(stream, fraction):
    """The height of its water where x is the fraction; None where it has none."""
    check_stream(stream)
    check_fraction(fraction)
    low, high = stretch_of(stream)
    return value_at(water_of(stream), fraction) if is_within(as_surd(fraction), low, high) else None


def meeting_places(stream, other):
    """The ascending list of x, surds, at which both meet; None if they have the same water along a stretch."""
    both = common([stretch_of(stream), stretch_of(other)])
    if both is None:
        return []
    gap = difference(water_of(stream), water_of(other))
    if gap == NOUGHT:
        return [both[0]] if order_of(both[0], both[1]) == 0 else None
    return [zero for zero in zeros(gap) if is_within(zero, both[0], both[1])]


def meetings(stream, other):
    """The pairs (X, HEIGHT) of surds at which both meet; None if they have the same water along a stretch."""
    check_stream(stream)
    check_stream(other)
    found = meeting_places(stream, other)
    return None if found is None else tuple([(right, surd_at(water_of(stream), right)) for right in found])


def first_there(stream, other, index):
    """`first`, `other` or `both`: whose water, let go at once, is first at the meeting with this index."""
    check_stream(stream)
    check_stream(other)
    found = meeting_places(stream, other)
    if found is None or not is_whole(index) or index < 0 or index >= len(found):
        raise InvalidIndex(index)
    return FIRST_WORDS[surd_sign(surd_at(difference(fall_of(stream), fall_of(other)), found[index]))]


def drops_meet(stream, other):
    """Whether drops that leave both spouts at once meet."""
    check_stream(stream)
    check_stream(other)
    (right, up), (other_right, other_up) = spout_of(stream), spout_of(other)
    ahead, higher = minus(other_right, right), minus(other_up, up)
    (_, way, (slope, bend)), (_, other_way, (other_slope, other_bend)) = stream, other
    # At the time T a drop is T / root(bend) ahead of its spout, and slope times this, less T * T, above it. So a drop
    # comes nearer to the other one by these, times T / root(bend), to the right and upward.
    rate = quotient(bend, other_bend)
    to_right = sign_with_root((way, 1), (-other_way, 1), rate)
    upward = sign_with_root(slope, negative(other_slope), rate)
    aside = sign_with_root(
        minus(times((way, 1), higher), times(slope, ahead)),
        minus(times(other_slope, ahead), times((other_way, 1), higher)), rate)
    if ahead[0] == 0 and higher[0] == 0:
        return True
    return aside == 0 and to_right == sign(ahead[0]) and upward == sign(higher[0])
