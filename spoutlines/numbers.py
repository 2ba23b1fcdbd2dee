"""Fractions and surds (point 6 of the document)."""

from math import gcd, isqrt

from spoutlines.arithmetic import is_whole, minus, plus, sign, sign_with_root, square_root, times
from spoutlines.errors import InvalidFraction, InvalidNumber, InvalidSurd


def is_fraction(value):
    if not isinstance(value, tuple) or len(value) != 2:
        return False
    upper, lower = value
    if not is_whole(upper) or not is_whole(lower):
        return False
    return lower > 0 and gcd(upper, lower) == 1


def is_surd(value):
    if not isinstance(value, tuple) or len(value) != 3:
        return False
    part, way, square = value
    if not is_fraction(part) or not is_whole(way) or not is_fraction(square):
        return False
    if way == 0:
        return square == (0, 1)
    if way != 1 and way != -1:
        return False
    return square[0] > 0 and square_root(square) is None


def check_fraction(value):
    if not is_fraction(value):
        raise InvalidFraction(value)


def check_surd(value):
    if not is_surd(value):
        raise InvalidSurd(value)


def check_many(value):
    if not is_whole(value) or value < 1 or value > 10 ** 12:
        raise InvalidNumber(value)


def surd_of(part, factor, fraction):
    """The surd of part + factor * root(fraction)."""
    check_fraction(part)
    check_fraction(factor)
    check_fraction(fraction)
    if fraction[0] < 0:
        raise InvalidFraction(fraction)
    root = square_root(fraction)
    if root is not None:
        return (plus(part, times(factor, root)), 0, (0, 1))
    # A factor of 0 comes out as it should: with E = 0 and the square 0.
    return (part, sign(factor[0]), times(times(factor, factor), fraction))


def surd_plus(surd, fraction):
    check_surd(surd)
    check_fraction(fraction)
    part, way, square = surd
    return (plus(part, fraction), way, square)


def surd_times(surd, fraction):
    check_surd(surd)
    check_fraction(fraction)
    part, way, square = surd
    return surd_of(times(part, fraction), times((way, 1), fraction), square)


def compare(surd, other):
    """-1, 0 or 1 as the first surd is less than, equal to, greater than the other one."""
    check_surd(surd)
    check_surd(other)
    part, way, square = surd
    other_part, other_way, other_square = other
    # With the other part taken away from both, the other surd is its root alone, with the sign other_way.
    rest = minus(part, other_part)
    rest_sign = sign_with_root(rest, (way, 1), square)
    if rest_sign != other_way:
        return sign(rest_sign - other_way)
    # Both have the same sign now, so that their squares tell which one is farther from 0.
    squares = minus(plus(times(rest, rest), square), other_square)
    return other_way * sign_with_root(squares, times((2 * way, 1), rest), square)


def near(surd, many):
    """The greatest n such that n / many is not above the surd, and whether it is the surd."""
    check_surd(surd)
    check_many(many)
    part, way, square = surd
    if way == 0:
        return (many * part[0] // part[1], many % part[1] == 0)
    # many times the surd is (whole + way * root(inside)) / lower, and inside is the square of no whole number.
    whole = many * part[0] * square[1]
    inside = many * many * part[1] * part[1] * square[0] * square[1]
    lower = part[1] * square[1]
    below = isqrt(inside) if way == 1 else -isqrt(inside) - 1
    return ((whole + below) // lower, False)
