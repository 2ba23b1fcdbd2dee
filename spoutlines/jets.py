"""Jets (points 9 to 11 and 17 of the document)."""

from spoutlines.arithmetic import ONE, ZERO, is_below, minus, negative, plus, quotient, sign, times
from spoutlines.errors import InvalidDistance, InvalidFraction, InvalidHead, InvalidJet, NotFarther
from spoutlines.numbers import check_fraction, is_fraction
from spoutlines.places import check_place, distance_of, height_of, place_of
from spoutlines.polynomials import surd_sign, value_at, zeros

WORDS = {1: "rises", 0: "top", -1: "falls"}


def is_jet(value):
    if not isinstance(value, tuple) or len(value) != 2:
        return False
    slope, bend = value
    return is_fraction(slope) and is_fraction(bend) and bend[0] > 0


def check_jet(value):
    if not is_jet(value):
        raise InvalidJet(value)


def check_head(value):
    if not is_fraction(value) or value[0] <= 0:
        raise InvalidHead(value)


def check_distance_or_zero(value):
    if not is_fraction(value) or value[0] < 0:
        raise InvalidDistance(value)


def check_above_zero(fraction):
    check_fraction(fraction)
    if fraction[0] <= 0:
        raise InvalidFraction(fraction)


def height_at(jet, distance):
    check_jet(jet)
    check_distance_or_zero(distance)
    slope, bend = jet
    return value_at((ZERO, slope, negative(bend)), distance)


def slope_at(jet, distance):
    check_jet(jet)
    check_distance_or_zero(distance)
    slope, bend = jet
    return minus(slope, times((2, 1), times(bend, distance)))


def time_square(jet, distance):
    check_jet(jet)
    check_distance_or_zero(distance)
    return times(times(distance, distance), jet[1])


def head_of(jet):
    check_jet(jet)
    slope, bend = jet
    return quotient(plus(ONE, times(slope, slope)), times((4, 1), bend))


def head_left(jet, distance):
    """The head that is left at the distance."""
    return minus(head_of(jet), height_at(jet, distance))


def word_at(jet, distance):
    return WORDS[sign(slope_at(jet, distance)[0])]


def top_of(jet):
    """The place of its top; None if it has none."""
    check_jet(jet)
    slope, bend = jet
    if slope[0] <= 0:
        return None
    distance = quotient(slope, times((2, 1), bend))
    return place_of(distance, height_at(jet, distance))


def distances_at(jet, height):
    """The ascending distances above 0, surds, at which it has this height."""
    check_jet(jet)
    check_fraction(height)
    slope, bend = jet
    return tuple([distance for distance in zeros((height, negative(slope), bend)) if surd_sign(distance) > 0])


def landing(jet, height):
    """The last distance at which it has this height; None if there is none."""
    found = distances_at(jet, height)
    return found[-1] if found else None


def jet_with(slope, place):
    """The jet with this slope through the place; None if there is none."""
    check_fraction(slope)
    check_place(place)
    distance = distance_of(place)
    bend = quotient(minus(slope, quotient(height_of(place), distance)), distance)
    return (slope, bend) if bend[0] > 0 else None


def jet_through(place, other):
    """The jet through both places; None if there is none."""
    check_place(place)
    check_place(other)
    near_end, far_end = distance_of(place), distance_of(other)
    if not is_below(near_end, far_end):
        raise NotFarther(other)
    # height / distance is the slope less bend times the distance.
    near_rise, far_rise = quotient(height_of(place), near_end), quotient(height_of(other), far_end)
    bend = quotient(minus(near_rise, far_rise), minus(far_end, near_end))
    return (plus(near_rise, times(bend, near_end)), bend) if bend[0] > 0 else None


def grown_jet(jet, fraction):
    """The jet that goes along with growing all places by the fraction."""
    check_jet(jet)
    check_above_zero(fraction)
    slope, bend = jet
    return (slope, quotient(bend, fraction))


def sheared_jet(jet, fraction):
    """The jet that goes along with shearing all places by the fraction."""
    check_jet(jet)
    check_fraction(fraction)
    slope, bend = jet
    return (plus(slope, fraction), bend)
