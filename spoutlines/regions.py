"""The jets that several asks leave, as points (SLOPE, BEND) of a plane (points 15, 18, 19 and 22 of the document).

They lie from the greatest of some curves, bent upward or straight, up to the least of some lines. Nothing is
checked here.
"""

from spoutlines.arithmetic import ZERO, is_below, negative, quotient
from spoutlines.bounds import kind_of, parts_of, row_at
from spoutlines.numbers import surd_plus, surd_times
from spoutlines.polynomials import NOUGHT, as_surd, difference, least_surd, lowest, surd_sign, value_at, weighted
from spoutlines.stretches import clipped, common, envelope, fraction_between, order_of, overlaid, stretch_under


class Bounds:
    """What asks, and perhaps a head, bound.

    Each of these lists holds pairs of the index of an ask, None for what is no ask, and what it bounds: `curves`,
    parts of polynomials from which bends go on; `lines`, polynomials up to which bends go; `uprights`, stretches of
    slopes.
    """

    def __init__(self, curves, lines, uprights):
        self.curves = curves
        self.lines = lines
        self.uprights = uprights


def end_surd(end):
    return None if end is None else as_surd(end)


def bound_between_surds(ask):
    """The bound of an ask, as parts between surds."""
    return [(end_surd(low), end_surd(high), polynomial) for low, high, polynomial in parts_of(ask)]


def curves_of(ask):
    """The bound of a lower ask as curves without a corner: a roof without an arc gives two straight ones."""
    bound = bound_between_surds(ask)
    if ask[0] == "roof" and len(bound) == 2:
        return [[(None, None, polynomial)] for _, _, polynomial in bound]
    return [bound]


def upright_stretch(ask):
    """The slopes that an upright ask leaves."""
    end = as_surd(ask[2])
    return (None, end) if ask[0] == "dives" else (end, None)


def bounds_of(asks):
    """The bounds of the asks, whatever the head."""
    curves, lines, uprights = [], [], []
    for index, ask in enumerate(asks):
        kind = kind_of(ask)
        if kind == "upright":
            uprights.append((index, upright_stretch(ask)))
        elif kind == "upper":
            lines.append((index, parts_of(ask)[0][2]))
        else:
            for curve in curves_of(ask):
                curves.append((index, curve))
    return Bounds(curves, lines, uprights)


def head_curve(head):
    """(1 + SLOPE * SLOPE) / (4 * head)"""
    least = quotient((1, 4), head)
    return (None, [(None, None, (least, ZERO, least))])


def bounds_with(head, asks):
    """The bounds of the asks and the head."""
    bounds = bounds_of(asks)
    return Bounds([head_curve(head)] + bounds.curves, bounds.lines, bounds.uprights)


def bounds_from_zero(asks):
    """The bounds of the asks, and 0, from which bends go on whatever the head."""
    bounds = bounds_of(asks)
    return Bounds([(None, [(None, None, NOUGHT)])] + bounds.curves, bounds.lines, bounds.uprights)


def slopes_left(bounds):
    """The stretch of slopes at which no curve is above a line; None if there is none."""
    stretches = [stretch for _, stretch in bounds.uprights]
    for _, curve in bounds.curves:
        for _, line in bounds.lines:
            stretches.append(stretch_under(curve, line))
    return common(stretches)


def bends_left(bounds, slope):
    """The greatest curve and the least line, None for endless, at a slope, a fraction."""
    number = as_surd(slope)
    least, most = None, None
    for _, curve in bounds.curves:
        bend = value_at(clipped(curve, number, number)[0][2], slope)
        if least is None or is_below(least, bend):
            least = bend
    for _, line in bounds.lines:
        bend = value_at(line, slope)
        if most is None or is_below(bend, most):
            most = bend
    return (least, most)


def jet_left(bounds, slopes):
    """A jet of fractions with one of these slopes, all of which are left."""
    low, high = slopes
    # A slope that is left alone is a fraction (point 19).
    slope = low[0] if order_of(low, high) == 0 else fraction_between(low, high)
    return (slope, bends_left(bounds, slope)[0])


def bottom_of(bounds, slopes):
    """The greatest curve at each of these slopes, as parts of polynomials."""
    low, high = slopes
    found = clipped(bounds.curves[0][1], low, high)
    for _, curve in bounds.curves[1:]:
        found = envelope(found, curve, 1)
    return found


def top_of(bounds, slopes):
    """The least line at each of these slopes, as parts of polynomials; [] if there are no lines."""
    low, high = slopes
    if not bounds.lines:
        return []
    found = [(low, high, bounds.lines[0][1])]
    for _, line in bounds.lines[1:]:
        found = envelope(found, [(None, None, line)], -1)
    return found


def least_on(parts, factor, weight):
    """The least of factor * SLOPE + weight * BEND, a surd, for the jets on these parts; None for endless."""
    values = [lowest(weighted(factor, weight, what), begin, end) for begin, end, what in parts]
    if not values or None in values:
        return None
    return least_surd(values)


def least_of(bounds, slopes, factor, weight):
    """The least of factor * SLOPE + weight * BEND, a surd, for all jets with these slopes; None for endless."""
    low, high = slopes
    parts = [(low, high, NOUGHT)]
    if weight[0] != 0:
        parts = bottom_of(bounds, slopes) if weight[0] > 0 else top_of(bounds, slopes)
    return least_on(parts, factor, weight)


def range_of(bounds, slopes, factor, weight):
    """The stretch of factor * SLOPE + weight * BEND for all jets with these slopes."""
    low = least_of(bounds, slopes, factor, weight)
    high = least_of(bounds, slopes, negative(factor), negative(weight))
    return (low, None if high is None else surd_times(high, (-1, 1)))


def least_gap(bounds, slopes, ask):
    """The least of the greatest curve less the bound of an ask, a surd, at these slopes; None for endless."""
    both = overlaid(bottom_of(bounds, slopes), bound_between_surds(ask))
    gaps = [lowest(difference(one, other), low, high) for low, high, one, other in both]
    return None if None in gaps else least_surd(gaps)


def is_sure(bounds, slopes, ask):
    """Whether all jets with these slopes, of which there are some, do the ask."""
    if ask[0] in ("roof", "low"):
        gap = least_gap(bounds, slopes, ask)
        return gap is not None and surd_sign(gap) >= 0
    factor, weight, rest = row_at(ask, ZERO)
    least = least_of(bounds, slopes, factor, weight)
    return least is not None and surd_sign(surd_plus(least, rest)) >= 0
