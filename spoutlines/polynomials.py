"""Polynomials (C, D, E), three fractions: C + D * x + E * x * x at the number x.

Where they are asked about from a number up to another one, these are surds, None for endless.
Nothing is checked here.
"""

from spoutlines.arithmetic import ZERO, minus, negative, plus, quotient, sign, sign_with_root, times
from spoutlines.numbers import compare, surd_of

NOUGHT = ((0, 1), (0, 1), (0, 1))


def as_surd(fraction):
    return (fraction, 0, ZERO)


def surd_sign(surd):
    part, way, square = surd
    return sign_with_root(part, (way, 1), square)


def least_surd(surds):
    least = surds[0]
    for surd in surds:
        if compare(surd, least) < 0:
            least = surd
    return least


def value_at(polynomial, number):
    """The value at a fraction, a fraction."""
    constant, growth, square = polynomial
    return plus(constant, times(number, plus(growth, times(square, number))))


def halves_at(polynomial, number):
    """(PART, FACTOR), fractions: its value at a surd is PART + FACTOR * the root of the square of the surd."""
    part, way, inside = number
    value = plus(value_at(polynomial, part), times(polynomial[2], inside))
    return (value, times((way, 1), growth_at(polynomial, part)))


def surd_at(polynomial, number):
    """The value at a surd, a surd."""
    part, factor = halves_at(polynomial, number)
    return surd_of(part, factor, number[2])


def surd_quotient(polynomial, other, number):
    """The value at a surd over that of the other polynomial, which is not 0 there, a surd."""
    inside = number[2]
    part, factor = halves_at(polynomial, number)
    other_part, other_factor = halves_at(other, number)
    # (a + b * root) / (c + d * root) is (a + b * root) * (c - d * root) / (c * c - d * d * root * root).
    below = minus(times(other_part, other_part), times(inside, times(other_factor, other_factor)))
    whole = minus(times(part, other_part), times(inside, times(factor, other_factor)))
    return surd_of(
        quotient(whole, below), quotient(minus(times(factor, other_part), times(part, other_factor)), below), inside)


def growth_at(polynomial, number):
    """How much it grows for each 1 at a fraction, a fraction."""
    return plus(polynomial[1], times(times((2, 1), polynomial[2]), number))


def difference(one, other):
    return (minus(one[0], other[0]), minus(one[1], other[1]), minus(one[2], other[2]))


def weighted(factor, weight, polynomial):
    """The polynomial factor * x + weight * polynomial."""
    constant, growth, square = polynomial
    return (times(weight, constant), plus(factor, times(weight, growth)), times(weight, square))


def zeros(polynomial):
    """The ascending list of the numbers, surds, at which it is 0; none is told for a constant one."""
    constant, growth, square = polynomial
    if square == ZERO:
        return [] if growth == ZERO else [as_surd(quotient(negative(constant), growth))]
    inside = minus(times(growth, growth), times((4, 1), times(square, constant)))
    if inside[0] < 0:
        return []
    middle = quotient(negative(growth), times((2, 1), square))
    if inside == ZERO:
        return [as_surd(middle)]
    to_each = quotient((sign(square[0]), 1), times((2, 1), square))
    return [surd_of(middle, negative(to_each), inside), surd_of(middle, to_each, inside)]


def far_sign(polynomial, way):
    """Its sign beyond all its zeros, to the right for the way 1, to the left for -1."""
    constant, growth, square = polynomial
    return sign(square[0]) or way * sign(growth[0]) or sign(constant[0])


def signs(polynomial):
    """Its signs between its zeros, as parts (LOW, HIGH, SIGN) from endless to endless."""
    found = zeros(polynomial)
    left, right = far_sign(polynomial, -1), far_sign(polynomial, 1)
    if not found:
        return [(None, None, right)]
    if len(found) == 1:
        return [(None, found[0], left), (found[0], None, right)]
    return [(None, found[0], left), (found[0], found[1], -left), (found[1], None, right)]


def falls_endlessly(polynomial, way):
    """Whether it falls below all numbers, to the right for the way 1, to the left for -1."""
    return polynomial[1:] != (ZERO, ZERO) and far_sign(polynomial, way) < 0


def lowest(polynomial, low, high):
    """Its least value from low up to high, a surd; None if it falls below all numbers."""
    if (low is None and falls_endlessly(polynomial, -1)) or (high is None and falls_endlessly(polynomial, 1)):
        return None
    tried = [end for end in (low, high) if end is not None]
    constant, growth, square = polynomial
    if square[0] > 0:
        turn = as_surd(quotient(negative(growth), times((2, 1), square)))
        if is_within(turn, low, high):
            tried.append(turn)
    if not tried:
        # Neither end and no turn: it is the same everywhere.
        return as_surd(constant)
    return least_surd([surd_at(polynomial, number) for number in tried])


def is_within(number, low, high):
    return (low is None or compare(low, number) <= 0) and (high is None or compare(number, high) <= 0)
