"""Sweeps from a jet to another one (points 38 and 39 of the document)."""

from spoutlines.arithmetic import ONE, ZERO, is_below, minus, negative, plus, quotient, times
from spoutlines.asks import check_asks, is_good
from spoutlines.errors import InvalidFraction
from spoutlines.grounds import check_ground
from spoutlines.jets import check_head, check_jet, height_at
from spoutlines.numbers import check_fraction, surd_plus, surd_times
from spoutlines.places import check_place, distance_of, height_of
from spoutlines.polynomials import as_surd, difference, is_within, value_at
from spoutlines.regions import bends_left, bounds_with, end_surd
from spoutlines.stretches import common, stretch_under, where_from_zero

ALL_SHARES = (((0, 1), 0, (0, 1)), ((1, 1), 0, (0, 1)))


def check_share(value):
    check_fraction(value)
    if is_below(value, ZERO) or is_below(ONE, value):
        raise InvalidFraction(value)


def jet_between(jet, other, fraction):
    """The jet at the share."""
    check_jet(jet)
    check_jet(other)
    check_share(fraction)
    return tuple([plus(begin, times(fraction, minus(end, begin))) for begin, end in zip(jet, other)])


def height_over(jet, place):
    return minus(height_at(jet, distance_of(place)), height_of(place))


def shares_wet(jet, other, place):
    """The least and the greatest share, fractions, at which the place is wet; None if it is at none."""
    check_jet(jet)
    check_jet(other)
    check_place(place)
    begin, end = height_over(jet, place), height_over(other, place)
    if begin == end:
        return (ZERO, ONE) if begin == ZERO else None
    share = quotient(begin, minus(begin, end))
    return None if is_below(share, ZERO) or is_below(ONE, share) else (share, share)


def stretch_between(number, other):
    """The stretch from one of two fractions to the other one."""
    if is_below(other, number):
        return (as_surd(other), as_surd(number))
    return (as_surd(number), as_surd(other))


def good_slopes(bounds, jet, other):
    """The slopes of the good jets on the straight way between both, whose slopes are not the same; None if none is."""
    slope, bend = jet
    growth = quotient(minus(other[1], bend), minus(other[0], slope))
    way = (minus(bend, times(growth, slope)), growth, ZERO)
    stretches = [stretch_between(slope, other[0])]
    stretches.extend([stretch for _, stretch in bounds.uprights])
    stretches.extend([stretch_under(curve, way) for _, curve in bounds.curves])
    stretches.extend([where_from_zero(difference(line, way)) for _, line in bounds.lines])
    return common(stretches)


def good_bends(bounds, jet, other):
    """The bends of the good jets on the straight way between both, whose slopes are the same; None if none is."""
    slope, bend = jet
    if not all([is_within(as_surd(slope), low, high) for _, (low, high) in bounds.uprights]):
        return None
    least, most = bends_left(bounds, slope)
    return common([(as_surd(least), end_surd(most)), stretch_between(bend, other[1])])


def share_of(number, begin, end):
    """The share of the way from a fraction to another one at which the surd lies, a surd."""
    return surd_times(surd_plus(number, negative(begin)), quotient(ONE, minus(end, begin)))


def shares_good(jet, other, head, asks):
    """The least and the greatest share, surds, at which the jet is good; None if it is at none."""
    check_jet(jet)
    check_jet(other)
    check_head(head)
    check_asks(asks)
    if jet == other:
        return ALL_SHARES if is_good(jet, head, asks) else None
    bounds = bounds_with(head, asks)
    if jet[0] == other[0]:
        found, begin, end = good_bends(bounds, jet, other), jet[1], other[1]
    else:
        found, begin, end = good_slopes(bounds, jet, other), jet[0], other[0]
    if found is None:
        return None
    low, high = share_of(found[0], begin, end), share_of(found[1], begin, end)
    return (high, low) if is_below(end, begin) else (low, high)


def corners_missed(jet, other, ground):
    """The corners that the jet is below at some share at which it is below none before, and if at some it is past."""
    shares, found = ALL_SHARES, []
    for index, corner in enumerate(ground):
        begin = height_over(jet, corner)
        over = (begin, minus(height_over(other, corner), begin), ZERO)
        # It goes straight with the share, so that it is least at an end of the shares.
        if value_at(over, shares[0][0])[0] < 0 or value_at(over, shares[1][0])[0] < 0:
            found.append(index)
        kept = where_from_zero(over)
        shares = None if kept is None else common([shares, kept])
        if shares is None:
            return (found, False)
    return (found, True)


def swept_words(jet, other, ground):
    """Those of the words `short`, `strikes`, `past` that the jet has at some share."""
    check_jet(jet)
    check_jet(other)
    check_ground(ground)
    missed, is_past = corners_missed(jet, other, ground)
    found = ["short"] if missed and missed[0] == 0 else []
    if missed and missed[-1] > 0:
        found.append("strikes")
    if is_past:
        found.append("past")
    return tuple(found)


def swept_edges(jet, other, ground):
    """The ascending indexes of the edges that the jet strikes at some share."""
    check_jet(jet)
    check_jet(other)
    check_ground(ground)
    return tuple([index - 1 for index in corners_missed(jet, other, ground)[0] if index > 0])
