"""Ranges of slopes, bends and heights of all good jets (point 22 of the document)."""

from spoutlines.arithmetic import ONE, ZERO, is_below, negative, times
from spoutlines.asks import check_asks
from spoutlines.bounds import keeps_upright, kind_of
from spoutlines.errors import NoJetFits
from spoutlines.jets import check_head
from spoutlines.numbers import check_fraction
from spoutlines.places import check_distance
from spoutlines.regions import bends_left, bounds_with, range_of, slopes_left


def good_range(head, asks, factor, weight):
    """The stretch of factor * SLOPE + weight * BEND for all good jets."""
    bounds = bounds_with(head, asks)
    slopes = slopes_left(bounds)
    if slopes is None:
        raise NoJetFits()
    return range_of(bounds, slopes, factor, weight)


def slope_range(head, asks):
    check_head(head)
    check_asks(asks)
    return good_range(head, asks, ONE, ZERO)


def bend_range(head, asks):
    check_head(head)
    check_asks(asks)
    return good_range(head, asks, ZERO, ONE)


def height_range(head, asks, distance):
    check_head(head)
    check_asks(asks)
    check_distance(distance)
    return good_range(head, asks, distance, negative(times(distance, distance)))


def slope_range_at(head, asks, distance):
    check_head(head)
    check_asks(asks)
    check_distance(distance)
    return good_range(head, asks, ONE, times((-2, 1), distance))


def bends_with(head, asks, slope):
    """Of the good jets with this slope the least bend and the greatest one, None for endless; None if none is good."""
    check_head(head)
    check_asks(asks)
    check_fraction(slope)
    for ask in asks:
        if kind_of(ask) == "upright" and not keeps_upright(ask, slope):
            return None
    least, most = bends_left(bounds_with(head, asks), slope)
    return None if most is not None and is_below(most, least) else (least, most)
