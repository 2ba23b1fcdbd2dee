"""Whether some jet is good (points 18 to 21 of the document)."""

from itertools import combinations

from spoutlines.asks import check_asks
from spoutlines.jets import check_head
from spoutlines.papers import paper_against, settles
from spoutlines.regions import bends_left, bounds_with, jet_left, slopes_left
from spoutlines.stretches import order_of


def fits(head, asks):
    """Whether some jet is good; nothing is checked here."""
    return slopes_left(bounds_with(head, asks)) is not None


def good_jet(head, asks):
    """Any good jet, None if there is none; nothing is checked here."""
    bounds = bounds_with(head, asks)
    slopes = slopes_left(bounds)
    return None if slopes is None else jet_left(bounds, slopes)


def how_many(head, asks):
    """`none`, `one` or `many`: how many good jets there are."""
    check_head(head)
    check_asks(asks)
    bounds = bounds_with(head, asks)
    slopes = slopes_left(bounds)
    if slopes is None:
        return "none"
    if order_of(slopes[0], slopes[1]) < 0:
        return "many"
    least, most = bends_left(bounds, slopes[0][0])
    return "one" if least == most else "many"


def any_jet(head, asks):
    """Any good jet; None if there is none."""
    check_head(head)
    check_asks(asks)
    return good_jet(head, asks)


def barred(head, asks):
    """The least of the shortest tuples of indexes of asks that alone leave no good jet; None if some jet is good."""
    check_head(head)
    check_asks(asks)
    if fits(head, asks):
        return None
    # Of convex sets of a plane, one of which may be that of the head, three are always enough.
    for size in range(1, 4):
        for indexes in combinations(range(len(asks)), size):
            if not fits(head, tuple([asks[index] for index in indexes])):
                return indexes
    return None


def weights(head, asks):
    """Any paper against the asks and the head; None if some jet is good."""
    check_head(head)
    check_asks(asks)
    return paper_against(head, asks)


def is_paper(head, asks, value):
    check_head(head)
    check_asks(asks)
    return settles(head, asks, value)
