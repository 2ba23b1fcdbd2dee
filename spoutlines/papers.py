"""Papers against asks and a head (point 20 of the document). Nothing is checked here but papers themselves.

A paper is made of limits: pairs of a curve and a line, whose difference (the line less the curve) is from 0 on for
good jets, and upright asks. Where these leave no slope, two of them can be found that leave none already.
"""

from spoutlines.arithmetic import ONE, ZERO, is_below, is_whole, minus, negative, plus, quotient, times
from spoutlines.bounds import is_row_distance, row_at
from spoutlines.numbers import compare, is_fraction
from spoutlines.polynomials import as_surd, growth_at
from spoutlines.regions import bounds_with
from spoutlines.stretches import clipped, fraction_between, order_of, stretch_under


class Limit:
    """A curve and a line, or an upright ask, each told as a pair with its index, and the stretch that they leave.

    For an upright ask there is no curve, and no line but the index.
    """

    def __init__(self, curve, line, stretch):
        self.curve = curve
        self.line = line
        self.stretch = stretch


def limits_of(bounds):
    found = [Limit(None, (index, None), stretch) for index, stretch in bounds.uprights]
    for curve in bounds.curves:
        for line in bounds.lines:
            found.append(Limit(curve, line, stretch_under(curve[1], line[1])))
    return found


def curve_growth(curve, slope):
    """How much a curve grows for each 1 at a slope, a fraction."""
    number = as_surd(slope)
    return growth_at(clipped(curve[1], number, number)[0][2], slope)


def limit_growth(limit, slope):
    """How much the difference of a limit grows for each 1 at a slope, a fraction."""
    if limit.curve is None:
        return (1, 1) if limit.stretch[1] is None else (-1, 1)
    return minus(limit.line[1][1], curve_growth(limit.curve, slope))


def triple_of(asks, index, growth, weight):
    """The triple of a paper for the row of the ask that grows so, the row taken so often that its BEND has the weight.

    The row of an upright ask, which has no BEND, is itself taken as often as the weight tells.
    """
    ask = asks[index]
    distance = quotient(ONE, growth) if ask[0] in ("roof", "low") else ZERO
    bends = row_at(ask, distance)[1]
    if bends == ZERO:
        return (index, distance, weight)
    return (index, distance, quotient(weight, (abs(bends[0]), bends[1])))


def pair_taken(head, asks, limit, growth, weight):
    """(W, TRIPLES) of the difference of a pair, taken so often, with the row of the curve that grows so."""
    found = [triple_of(asks, limit.line[0], ZERO, weight)]
    if limit.curve[0] is None:
        return (quotient(weight, times((4, 1), head)), found)
    return (ZERO, [triple_of(asks, limit.curve[0], growth, weight)] + found)


def limit_taken(head, asks, limit, slope, weight):
    """(W, TRIPLES) of the difference of a limit, taken so often, straight as it is at the slope."""
    if limit.curve is None:
        return (ZERO, [triple_of(asks, limit.line[0], ZERO, weight)])
    return pair_taken(head, asks, limit, curve_growth(limit.curve, slope), weight)


def with_head_for_low(bounds, asks, limit, slope):
    """The limit, or where the bound of `low` is 0, for which it has no row, that of the head in the place of `low`."""
    if limit.curve is None or limit.curve[0] is None or asks[limit.curve[0]][0] != "low" or slope[0] > 0:
        return limit
    return Limit(bounds.curves[0], limit.line, limit.stretch)


def paper_at(head, asks, limits, slope):
    """The paper of two limits: at this slope both differences are below 0, the first one falls, the other one rises."""
    falling, rising = limits
    fall, rise = negative(limit_growth(falling, slope)), limit_growth(rising, slope)
    first_share, first = limit_taken(head, asks, falling, slope, rise)
    other_share, other = limit_taken(head, asks, rising, slope, fall)
    return (plus(first_share, other_share), tuple(first + other))


def first_to_end(limits):
    """Of these limits one whose stretch ends first; None if none ends."""
    found = None
    for limit in limits:
        end = limit.stretch[1]
        if end is not None and (found is None or compare(end, found.stretch[1]) < 0):
            found = limit
    return found


def last_to_begin(limits):
    """Of these limits one whose stretch begins last; None if none begins."""
    found = None
    for limit in limits:
        begin = limit.stretch[0]
        if begin is not None and (found is None or compare(begin, found.stretch[0]) > 0):
            found = limit
    return found


def paper_against(head, asks):
    """A paper against the asks and the head; None if some jet is good."""
    bounds = bounds_with(head, asks)
    limits = limits_of(bounds)
    for limit in limits:
        if limit.stretch is None:
            share, triples = pair_taken(head, asks, limit, limit.line[1][1], ONE)
            return (share, tuple(triples))
    falling, rising = first_to_end(limits), last_to_begin(limits)
    if falling is None or rising is None or order_of(rising.stretch[0], falling.stretch[1]) <= 0:
        return None
    slope = fraction_between(falling.stretch[1], rising.stretch[0])
    used = [with_head_for_low(bounds, asks, limit, slope) for limit in (falling, rising)]
    return paper_at(head, asks, used, slope)


def is_triple(asks, value):
    """Whether a value, whatever it is, may stand among the triples of a paper."""
    if not isinstance(value, tuple) or len(value) != 3:
        return False
    index, distance, weight = value
    if not is_whole(index) or index < 0 or index >= len(asks):
        return False
    return is_row_distance(asks[index], distance) and is_fraction(weight) and weight[0] > 0


def has_paper_form(asks, value):
    """Whether a value, whatever it is, has the form of a paper."""
    if not isinstance(value, tuple) or len(value) != 2:
        return False
    share, triples = value
    if not is_fraction(share) or share[0] < 0 or not isinstance(triples, tuple) or len(triples) not in (1, 2, 3, 4):
        return False
    return all([is_triple(asks, triple) for triple in triples])


def is_below_zero_everywhere(constant, growth, square):
    """Whether constant + growth * x - square * x * x, square from 0 on, is below 0 for all numbers x."""
    if square == ZERO:
        return growth == ZERO and constant[0] < 0
    return is_below(plus(times(growth, growth), times((4, 1), times(square, constant))), ZERO)


def settles(head, asks, value):
    """Whether a value, whatever it is, is a paper against the asks and the head."""
    if not has_paper_form(asks, value):
        return False
    share, triples = value
    slopes, bends, rest = ZERO, times((4, 1), times(head, share)), negative(share)
    for index, distance, weight in triples:
        row = row_at(asks[index], distance)
        slopes, bends = plus(slopes, times(weight, row[0])), plus(bends, times(weight, row[1]))
        rest = plus(rest, times(weight, row[2]))
    return bends == ZERO and is_below_zero_everywhere(rest, slopes, share)
