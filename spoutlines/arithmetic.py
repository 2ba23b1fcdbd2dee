"""Reckoning with fractions, pairs (n, m) as told in point 6 of the document.

Nothing is checked here: the callers have done that, or made the fractions themselves.
"""

from math import gcd, isqrt

ZERO = (0, 1)
ONE = (1, 1)


def is_whole(value):
    return isinstance(value, int) and not isinstance(value, bool)


def sign(number):
    if number > 0:
        return 1
    return -1 if number < 0 else 0


def reduced(upper, lower):
    """The fraction upper / lower, of whole numbers, lower above 0."""
    common = gcd(upper, lower)
    return (upper // common, lower // common)


def plus(one, other):
    return reduced(one[0] * other[1] + other[0] * one[1], one[1] * other[1])


def minus(one, other):
    return reduced(one[0] * other[1] - other[0] * one[1], one[1] * other[1])


def times(one, other):
    return reduced(one[0] * other[0], one[1] * other[1])


def quotient(one, other):
    """The fraction one / other, the other one not 0."""
    upper, lower = one[0] * other[1], one[1] * other[0]
    return reduced(upper, lower) if lower > 0 else reduced(-upper, -lower)


def negative(fraction):
    return (-fraction[0], fraction[1])


def is_below(one, other):
    return one[0] * other[1] < other[0] * one[1]


def square_root(fraction):
    """The root of a fraction from 0 on if it is a fraction, otherwise None."""
    # As the fraction is reduced, it is a square only if both of its numbers are.
    upper = isqrt(fraction[0])
    lower = isqrt(fraction[1])
    if upper * upper == fraction[0] and lower * lower == fraction[1]:
        return (upper, lower)
    return None


def sign_with_root(part, factor, fraction):
    """The sign of part + factor * root(fraction), three fractions, the last one from 0 on."""
    part_sign = sign(part[0])
    root_sign = sign(factor[0]) * sign(fraction[0])
    if part_sign == 0:
        return root_sign
    if part_sign * root_sign >= 0:
        return part_sign
    # The two pull apart, so that the one with the greater square decides.
    squared = times(times(factor, factor), fraction)
    return part_sign * sign(minus(times(part, part), squared)[0])
