"""Where the water of good jets comes, and where not (points 28 to 30 of the document)."""

from spoutlines.arithmetic import is_below, negative, times
from spoutlines.asks import check_asks
from spoutlines.errors import NoJetFits, NotFarther
from spoutlines.fits import fits, good_jet
from spoutlines.jets import check_head, height_at
from spoutlines.numbers import surd_plus
from spoutlines.places import check_place, distance_of, height_of
from spoutlines.polynomials import surd_sign
from spoutlines.regions import bounds_with, least_gap, least_of, slopes_left


def with_place(asks, place):
    """The asks, and to come through the place."""
    return asks + (("over", place), ("under", place))


def is_wet(head, asks, place):
    check_head(head)
    check_asks(asks)
    check_place(place)
    return fits(head, with_place(asks, place))


def jet_to(head, asks, place):
    """Any good jet through the place; None if it is dry."""
    check_head(head)
    check_asks(asks)
    check_place(place)
    return good_jet(head, with_place(asks, place))


def slopes_to(head, asks, place):
    """The least and the greatest slope of the good jets through the place, surds; None if it is dry."""
    check_head(head)
    check_asks(asks)
    check_place(place)
    return slopes_left(bounds_with(head, with_place(asks, place)))


def side_of(head, asks, place):
    """`wet`, `over` or `under`: some good jet comes through the place, all pass over it, all under it."""
    check_head(head)
    check_asks(asks)
    check_place(place)
    jet = good_jet(head, asks)
    if jet is None:
        raise NoJetFits()
    if fits(head, with_place(asks, place)):
        return "wet"
    # If none comes through it, one tells for all of them.
    return "over" if is_below(height_of(place), height_at(jet, distance_of(place))) else "under"


def all_above(bounds, slopes, place):
    """Whether all these jets are above the place."""
    distance = distance_of(place)
    least = least_of(bounds, slopes, distance, negative(times(distance, distance)))
    return least is not None and surd_sign(surd_plus(least, negative(height_of(place)))) > 0


def piece_side(head, asks, place, other):
    """`meets`, `over` or `under`: some good jet meets the piece between the places, all pass over it, all under it."""
    check_head(head)
    check_asks(asks)
    check_place(place)
    check_place(other)
    if not is_below(distance_of(place), distance_of(other)):
        raise NotFarther(other)
    bounds = bounds_with(head, asks)
    slopes = slopes_left(bounds)
    if slopes is None:
        raise NoJetFits()
    if all_above(bounds, slopes, place) and all_above(bounds, slopes, other):
        return "over"
    # Bends up to the bound of a roof are those of the jets that come up to it somewhere, or higher.
    gap = least_gap(bounds, slopes, ("roof", place, other))
    return "under" if gap is not None and surd_sign(gap) > 0 else "meets"
