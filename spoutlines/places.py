"""Points and places (points 7 and 8 of the document)."""

from math import gcd

from spoutlines.arithmetic import is_whole, reduced
from spoutlines.errors import InvalidDistance, InvalidFraction, InvalidNumber, InvalidPlace, InvalidPoint
from spoutlines.numbers import check_fraction, is_fraction


def is_point(value):
    if not isinstance(value, tuple) or len(value) != 3:
        return False
    right, up, unit = value
    if not is_whole(right) or not is_whole(up) or not is_whole(unit):
        return False
    return unit > 0 and gcd(right, up, unit) == 1


def is_place(value):
    return is_point(value) and value[0] > 0


def check_point(value):
    if not is_point(value):
        raise InvalidPoint(value)


def check_place(value):
    if not is_place(value):
        raise InvalidPlace(value)


def check_distance(value):
    if not is_fraction(value) or value[0] <= 0:
        raise InvalidDistance(value)


def reduced_point(right, up, unit):
    """The point right / unit to the right, up / unit up, of whole numbers, unit above 0."""
    common = gcd(right, up, unit)
    return (right // common, up // common, unit // common)


def place_of(distance, height):
    check_distance(distance)
    check_fraction(height)
    return reduced_point(distance[0] * height[1], height[0] * distance[1], distance[1] * height[1])


def distance_of(place):
    check_place(place)
    return reduced(place[0], place[2])


def height_of(place):
    check_place(place)
    return reduced(place[1], place[2])


def grown(place, fraction):
    """The place with its distance and its height times the fraction."""
    check_place(place)
    check_fraction(fraction)
    if fraction[0] <= 0:
        raise InvalidFraction(fraction)
    upper, lower = fraction
    return reduced_point(place[0] * upper, place[1] * upper, place[2] * lower)


def sheared(place, fraction):
    """The place at its distance, higher by the fraction times this distance."""
    check_place(place)
    check_fraction(fraction)
    upper, lower = fraction
    return reduced_point(place[0] * lower, place[1] * lower + place[0] * upper, place[2] * lower)


def seen_from(point, way, other):
    """The place that the other point is for a spout at the first one; None if it is not ahead."""
    check_point(point)
    if not is_whole(way) or (way != 1 and way != -1):
        raise InvalidNumber(way)
    check_point(other)
    right, up, unit = point
    ahead = way * (other[0] * unit - right * other[2])
    if ahead <= 0:
        return None
    return reduced_point(ahead, other[1] * unit - up * other[2], unit * other[2])
