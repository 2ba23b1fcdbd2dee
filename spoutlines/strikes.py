"""Where good jets strike a ground (points 31 to 33 of the document). Nothing is checked here.

Edges are told by the ground and their index, distances by fractions.
"""

from spoutlines.arithmetic import ZERO, is_below, plus, reduced, times
from spoutlines.bounds import keeps, row_at, straight_way
from spoutlines.fits import fits
from spoutlines.misses import jet_missing
from spoutlines.numbers import surd_plus
from spoutlines.places import distance_of, place_of
from spoutlines.polynomials import surd_sign
from spoutlines.regions import bottom_of, bounds_with, least_on, slopes_left, top_of
from spoutlines.sayings import all_do


def corner_missed(jet, ground):
    """The index of the first corner that the jet is below; None if it is below none."""
    for index, corner in enumerate(ground):
        if not keeps(jet, ("over", corner)):
            return index
    return None


def edge_hit(jet, ground):
    """The index of the edge that the jet strikes; None if it strikes none."""
    missed = corner_missed(jet, ground)
    return missed - 1 if missed else None


def with_corners(asks, ground, many):
    """The asks, and to be below none of so many first corners."""
    return asks + tuple([("over", corner) for corner in ground[:many]])


def comes_short_at(head, asks, ground, index):
    """Whether some good jet is below the corner with this index and below none of those before it."""
    return not all_do(head, with_corners(asks, ground, index), (("over", ground[index]),))


def is_struck(head, asks, ground, index):
    """Whether some good jet strikes this edge."""
    return comes_short_at(head, asks, ground, index + 1)


def jet_upon(head, asks, ground, index):
    """Any good jet that strikes this edge; None if there is none."""
    return jet_missing(head, with_corners(asks, ground, index + 1), ("over", ground[index + 1]))


def place_upon(ground, index, distance):
    """The place of the edge, or of its straight way, at the distance."""
    start, rise = straight_way(ground[index], ground[index + 1])
    return place_of(distance, plus(start, times(rise, distance)))


def begin_of(ground, index):
    return distance_of(ground[index])


def downward(ground, index):
    """To be at the begin of the edge not above it, and not to rise above it there."""
    rise = straight_way(ground[index], ground[index + 1])[1]
    return (("under", ground[index]), ("dives", begin_of(ground, index), rise))


def is_struck_up_to(head, asks, ground, index, distance):
    """Whether some good jet strikes this edge at a distance up to this one."""
    begin, end = begin_of(ground, index), begin_of(ground, index + 1)
    if is_below(distance, begin):
        return False
    if not is_below(distance, end):
        return is_struck(head, asks, ground, index)
    more = downward(ground, index) if distance == begin else (("under", place_upon(ground, index, distance)),)
    return fits(head, with_corners(asks, ground, index + 1) + more)


def least_sign(parts, word, place):
    """The sign of the least row of ("over", PLACE) or ("under", PLACE), as the word is, for jets on these parts."""
    factor, weight, rest = row_at((word, place), ZERO)
    return surd_sign(surd_plus(least_on(parts, factor, weight), rest))


def last_whole(low, high, holds):
    """The greatest whole number for which it holds: it does for the low one, and no more from some one on to high."""
    while high - low > 1:
        middle = (low + high) // 2
        if holds(middle):
            low = middle
        else:
            high = middle
    return low


def last_part(ground, index, many, holds):
    """The greatest n for which it holds that n / many is up to a distance between both ends of the edge.

    It is asked only about what is above the begin and not above the end.
    """
    begin, end = begin_of(ground, index), begin_of(ground, index + 1)
    low, high = many * begin[0] // begin[1], many * end[0] // end[1] + 1
    return last_whole(low, high, lambda n: not is_below(begin, reduced(n, many)) or holds(reduced(n, many)))


def lower_end(head, asks, ground, index, many):
    """(n, IS_JUST) for the lower end of the distances at which good jets strike this edge, which some do."""
    bounds = bounds_with(head, with_corners(asks, ground, index + 1))
    lowest_ones = top_of(bounds, slopes_left(bounds))

    def none_before(distance):
        return least_sign(lowest_ones, "over", place_upon(ground, index, distance)) >= 0

    number = last_part(ground, index, many, none_before)
    return (number, is_struck_up_to(head, asks, ground, index, reduced(number, many)))


def upper_end(head, asks, ground, index, many):
    """(n, IS_JUST) for the upper end of the distances at which good jets strike this edge, which some do."""
    above = with_corners(asks, ground, index + 1) + (("under", ground[index + 1]),)
    bounds = bounds_with(head, above)
    highest_ones = bottom_of(bounds, slopes_left(bounds))

    def way_below(distance):
        """0 if the highest jet just comes to the edge there, -1 if it is above it, 1 if below it."""
        return least_sign(highest_ones, "under", place_upon(ground, index, distance))

    number = last_part(ground, index, many, lambda distance: way_below(distance) <= 0)
    distance, begin = reduced(number, many), begin_of(ground, index)
    if is_below(begin, distance):
        return (number, way_below(distance) == 0)
    return (number, distance == begin and all_do(head, above, downward(ground, index)))
