"""Good jets that do not do a further ask (points 15 and 23 of the document). Nothing is checked here."""

from spoutlines.arithmetic import ZERO, negative, plus
from spoutlines.bounds import keeps, opposite_of, row_at
from spoutlines.fits import good_jet
from spoutlines.numbers import surd_plus
from spoutlines.places import distance_of, height_of, place_of
from spoutlines.polynomials import as_surd, difference, signs, surd_sign
from spoutlines.regions import bends_left, bottom_of, bound_between_surds, bounds_with, jet_left, least_of, slopes_left
from spoutlines.stretches import clipped, fraction_between, order_of, overlaid


def missed_by(ask, gap):
    """What a jet does exactly if its row of the ask, neither a roof nor `low`, is at most - gap, a fraction above 0."""
    word, opposite = ask[0], opposite_of(ask)
    step = negative(gap) if word in ("over", "climbs", "slow") else gap
    if word in ("over", "under"):
        return (opposite[0], place_of(distance_of(ask[1]), plus(height_of(ask[1]), step)))
    return opposite[:-1] + (plus(opposite[-1], step),)


def slope_below(bounds, slopes, ask):
    """Among more than one slope, one at which some jet is below the bound of a lower ask; None if there is none."""
    for low, high, curve, bound in overlaid(bottom_of(bounds, slopes), bound_between_surds(ask)):
        for begin, end, which in clipped(signs(difference(curve, bound)), low, high):
            if which < 0:
                return fraction_between(begin, end)
    return None


def jet_below(bounds, slopes, ask):
    """Any jet of fractions with one of these slopes that is below the bound of a lower ask; None if there is none."""
    if order_of(slopes[0], slopes[1]) == 0:
        jet = jet_left(bounds, slopes)
        return None if keeps(jet, ask) else jet
    slope = slope_below(bounds, slopes, ask)
    return None if slope is None else (slope, bends_left(bounds, slope)[0])


def jet_missing(head, asks, ask):
    """Any good jet that does not do the ask; None if there is none."""
    bounds = bounds_with(head, asks)
    slopes = slopes_left(bounds)
    if slopes is None:
        return None
    if ask[0] in ("roof", "low"):
        return jet_below(bounds, slopes, ask)
    factor, weight, rest = row_at(ask, ZERO)
    least = least_of(bounds, slopes, factor, weight)
    if least is not None:
        least = surd_plus(least, rest)
        if surd_sign(least) >= 0:
            return None
    # The least one may be reached by a jet that has no fractions, but what is less than 0 by a bit is reached by some.
    gap = negative(fraction_between(least, as_surd(ZERO)))
    return good_jet(head, asks + (missed_by(ask, gap),))
