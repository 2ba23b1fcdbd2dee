"""Stretches of numbers, pairs (LOW, HIGH) of surds, None for endless, and parts (LOW, HIGH, WHAT) upon them.

Parts stand in the order of numbers, each beginning where the one before it ends. Nothing is checked here.
"""

from spoutlines.arithmetic import reduced
from spoutlines.numbers import compare, near, surd_times
from spoutlines.polynomials import as_surd, difference, far_sign, signs, zeros

ENDLESS = (None, None)


def later_begin(one, other):
    if one is None or (other is not None and compare(one, other) < 0):
        return other
    return one


def earlier_end(one, other):
    if one is None or (other is not None and compare(one, other) > 0):
        return other
    return one


def order_of(low, high):
    """-1, 0 or 1 as the stretch has more than one number, one, or none."""
    return -1 if low is None or high is None else compare(low, high)


def common(stretches):
    """The stretch that all of these have in common; None if there is none, or if one of these is None."""
    low, high = ENDLESS
    for stretch in stretches:
        if stretch is None:
            return None
        low, high = later_begin(low, stretch[0]), earlier_end(high, stretch[1])
    return None if order_of(low, high) > 0 else (low, high)


def clipped(parts, low, high):
    """The parts from low up to high, where these are one number a part of just this number."""
    found = []
    for part_low, part_high, what in parts:
        begin, end = later_begin(low, part_low), earlier_end(high, part_high)
        order = order_of(begin, end)
        if order < 0:
            found.append((begin, end, what))
        elif order == 0 and order_of(low, high) == 0:
            return [(begin, end, what)]
    return found


def overlaid(ones, others):
    """(LOW, HIGH, ONE, OTHER) for parts of the same stretch: what both have there."""
    return [(low, high, one, other) for begin, end, one in ones for low, high, other in clipped(others, begin, end)]


def envelope(ones, others, way):
    """Of two parts of polynomials the greater one everywhere, for the way 1, or the lesser one, for -1."""
    found = []
    for begin, end, one, other in overlaid(ones, others):
        for low, high, which in clipped(signs(difference(one, other)), begin, end):
            best = one if which * way >= 0 else other
            if found and found[-1][2] == best:
                low = found.pop()[0]
            found.append((low, high, best))
    return found


def where_from_zero(polynomial):
    """The stretch on which a polynomial that does not bend upward is from 0 on; None if there is none."""
    found = zeros(polynomial)
    if not found:
        return ENDLESS if far_sign(polynomial, 1) >= 0 else None
    low = found[0] if far_sign(polynomial, -1) < 0 else None
    high = found[-1] if far_sign(polynomial, 1) < 0 else None
    return (low, high)


def stretch_under(curve, line):
    """The stretch on which a curve is not above a line, parts of which the curve bends upward as a whole, or None."""
    found = []
    for low, high, polynomial in curve:
        stretch = where_from_zero(difference(line, polynomial))
        shared = None if stretch is None else common([stretch, (low, high)])
        if shared is not None:
            found.append(shared)
    return (found[0][0], found[-1][1]) if found else None


def fraction_between(low, high):
    """A fraction above low and below high, which is above low."""
    if low is None:
        return (0, 1) if high is None else (near(high, 1)[0] - 1, 1)
    if high is None:
        return (near(low, 1)[0] + 1, 1)
    bits = 0
    while True:
        unit = 1 << bits
        tried = reduced(near(surd_times(low, (unit, 1)), 1)[0] + 1, unit)
        if compare(as_surd(tried), high) < 0:
            return tried
        # Ends of great numbers may lie so close together that one bit more each time would take too long.
        bits = 2 * bits + 1
