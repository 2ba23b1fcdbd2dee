"""Grounds, and where jets strike them (points 31 to 33 of the document)."""

from spoutlines.arithmetic import is_below, is_whole, minus, quotient, times
from spoutlines.asks import check_asks
from spoutlines.bounds import straight_way
from spoutlines.errors import InvalidGround, InvalidIndex
from spoutlines.fits import fits
from spoutlines.jets import check_head, check_jet
from spoutlines.numbers import check_many, surd_of
from spoutlines.places import check_distance, distance_of, is_place
from spoutlines.strikes import (
    comes_short_at, corner_missed, edge_hit, is_struck, is_struck_up_to, jet_upon, lower_end, upper_end, with_corners,
)

MOST_CORNERS = 8


def is_next_corner(corners, value):
    """Whether a value, whatever it is, may stand behind these corners of a ground."""
    if len(corners) == MOST_CORNERS or not is_place(value):
        return False
    return len(corners) == 0 or is_below(distance_of(corners[-1]), distance_of(value))


def wrong_corner(value):
    """The index of the first wrong element of a tuple that should be a ground; None if there is none."""
    for index, corner in enumerate(value):
        if not is_next_corner(value[:index], corner):
            return index
    return None


def is_ground(value):
    return isinstance(value, tuple) and len(value) >= 2 and wrong_corner(value) is None


def check_ground(value):
    if not is_ground(value):
        raise InvalidGround(wrong_corner(value) if isinstance(value, tuple) and len(value) >= 2 else None)


def is_edge_index(ground, value):
    """Whether a value, whatever it is, is the index of an edge of the ground."""
    return is_whole(value) and 0 <= value < len(ground) - 1


def check_edge_index(ground, value):
    if not is_edge_index(ground, value):
        raise InvalidIndex(value)


def ground_word(jet, ground):
    """`short`, `strikes` or `past`."""
    check_jet(jet)
    check_ground(ground)
    missed = corner_missed(jet, ground)
    if missed is None:
        return "past"
    return "short" if missed == 0 else "strikes"


def strike_edge(jet, ground):
    """The index of the edge that the jet strikes; None if it strikes none."""
    check_jet(jet)
    check_ground(ground)
    return edge_hit(jet, ground)


def strike_distance(jet, ground):
    """The distance of the strike, a surd; None if the jet strikes no edge."""
    edge = strike_edge(jet, ground)
    if edge is None:
        return None
    start, rise = straight_way(ground[edge], ground[edge + 1])
    slope, bend = minus(jet[0], rise), jet[1]
    halved = quotient((1, 2), bend)
    inside = minus(times(slope, slope), times((4, 1), times(bend, start)))
    return surd_of(times(slope, halved), halved, inside)


def struck_ones(head, asks, ground):
    """The ascending indexes of the edges that some good jet strikes."""
    return tuple([index for index in range(len(ground) - 1) if is_struck(head, asks, ground, index)])


def ground_words(head, asks, ground):
    """Those of the words `short`, `strikes`, `past` that some good jet has."""
    check_head(head)
    check_asks(asks)
    check_ground(ground)
    found = ["short"] if comes_short_at(head, asks, ground, 0) else []
    if struck_ones(head, asks, ground):
        found.append("strikes")
    if fits(head, with_corners(asks, ground, len(ground))):
        found.append("past")
    return tuple(found)


def struck_edges(head, asks, ground):
    """The ascending indexes of the edges that some good jet strikes."""
    check_head(head)
    check_asks(asks)
    check_ground(ground)
    return struck_ones(head, asks, ground)


def jet_striking(head, asks, ground, index):
    """Any good jet that strikes this edge; None if there is none."""
    check_head(head)
    check_asks(asks)
    check_ground(ground)
    check_edge_index(ground, index)
    return jet_upon(head, asks, ground, index)


def strikes_up_to(head, asks, ground, index, distance):
    """Whether some good jet strikes this edge at a distance up to this one."""
    check_head(head)
    check_asks(asks)
    check_ground(ground)
    check_edge_index(ground, index)
    check_distance(distance)
    return is_struck_up_to(head, asks, ground, index, distance)


def nearest_strike(head, asks, ground, index, many):
    """(n, IS_JUST) for the lower end of the distances at which good jets strike this edge; None if none does."""
    check_head(head)
    check_asks(asks)
    check_ground(ground)
    check_edge_index(ground, index)
    check_many(many)
    return lower_end(head, asks, ground, index, many) if is_struck(head, asks, ground, index) else None


def farthest_strike(head, asks, ground, index, many):
    """(n, IS_JUST) for the upper end of the distances at which good jets strike this edge; None if none does."""
    check_head(head)
    check_asks(asks)
    check_ground(ground)
    check_edge_index(ground, index)
    check_many(many)
    return upper_end(head, asks, ground, index, many) if is_struck(head, asks, ground, index) else None
