"""spoutlines.polynomials: values, zeros and least values of polynomials of degree 2 at most."""

import unittest
from fractions import Fraction

from spoutlines.numbers import compare, is_surd
from spoutlines.polynomials import (
    as_surd, difference, growth_at, is_within, least_surd, lowest, signs, surd_at, surd_quotient, surd_sign, value_at,
    weighted, zeros,
)
from tests.oracle import Maker, number, number_below, pair

NEARLY = Fraction(1, 10 ** 20)
ROOT_TWO = ((0, 1), 1, (2, 1))


def polynomial_of(*numbers):
    return tuple([pair(one) for one in numbers])


def right_value(polynomial, x):
    return number(polynomial[0]) + number(polynomial[1]) * x + number(polynomial[2]) * x * x


def made_polynomials(seed, many):
    maker = Maker(seed)
    for _ in range(many):
        yield tuple([maker.random.choice([(0, 1), maker.fraction(), maker.fraction()]) for _ in range(3)])


def made_surd(maker):
    part, square = maker.fraction(), maker.above_zero()
    surd = (part, maker.random.choice((1, -1)), square)
    return surd if is_surd(surd) else as_surd(part)


class ValuesTest(unittest.TestCase):

    def test_at_fractions(self):
        for polynomial in made_polynomials(1, 100):
            for x in (Fraction(0), Fraction(-3, 2), Fraction(7, 5)):
                self.assertEqual(value_at(polynomial, pair(x)), pair(right_value(polynomial, x)))
                growth = number(polynomial[1]) + 2 * number(polynomial[2]) * x
                self.assertEqual(growth_at(polynomial, pair(x)), pair(growth))
                self.assertEqual(surd_at(polynomial, as_surd(pair(x))), as_surd(value_at(polynomial, pair(x))))

    def test_at_surds(self):
        self.assertEqual(surd_at(polynomial_of(1, 2, 3), ROOT_TWO), ((7, 1), 1, (8, 1)))
        self.assertEqual(surd_at(polynomial_of(1, 0, 3), ROOT_TWO), as_surd((7, 1)))
        maker = Maker(2)
        for polynomial in made_polynomials(3, 200):
            surd = made_surd(maker)
            told = surd_at(polynomial, surd)
            self.assertTrue(is_surd(told))
            self.assertLess(abs(number_below(told) - right_value(polynomial, number_below(surd))), NEARLY)

    def test_quotients(self):
        self.assertEqual(surd_quotient(polynomial_of(1, 0, 0), polynomial_of(1, 1, 0), ROOT_TWO), ((-1, 1), 1, (2, 1)))
        maker = Maker(4)
        others = list(made_polynomials(6, 200))
        for polynomial, other in zip(made_polynomials(5, 200), others):
            surd = made_surd(maker)
            if surd_sign(surd_at(other, surd)) != 0:
                told = surd_quotient(polynomial, other, surd)
                self.assertTrue(is_surd(told))
                right = right_value(polynomial, number_below(surd)) / right_value(other, number_below(surd))
                self.assertLess(abs(number_below(told) - right), NEARLY)

    def test_sums(self):
        for one, other in zip(made_polynomials(7, 50), made_polynomials(8, 50)):
            for x in (Fraction(2, 3), Fraction(-4)):
                told = right_value(difference(one, other), x)
                self.assertEqual(told, right_value(one, x) - right_value(other, x))
                told = right_value(weighted((2, 3), (-1, 2), one), x)
                self.assertEqual(told, Fraction(2, 3) * x - right_value(one, x) / 2)

    def test_surds(self):
        self.assertEqual([surd_sign(ROOT_TWO), surd_sign(as_surd((0, 1))), surd_sign(((1, 1), -1, (2, 1)))], [1, 0, -1])
        self.assertEqual(least_surd([as_surd((3, 2)), ROOT_TWO, as_surd((5, 1))]), ROOT_TWO)
        self.assertEqual([is_within(ROOT_TWO, None, None), is_within(ROOT_TWO, ROOT_TWO, ROOT_TWO)], [True, True])
        self.assertEqual([is_within(ROOT_TWO, as_surd((3, 2)), None), is_within(ROOT_TWO, None, as_surd((1, 1)))],
                         [False, False])


class ZerosTest(unittest.TestCase):

    def test_zeros(self):
        self.assertEqual([zeros(polynomial_of(3, 0, 0)), zeros(polynomial_of(0, 0, 0))], [[], []])
        self.assertEqual(zeros(polynomial_of(3, -2, 0)), [as_surd((3, 2))])
        self.assertEqual([zeros(polynomial_of(1, 0, 1)), zeros(polynomial_of(-1, 1, -1))], [[], []])
        self.assertEqual(zeros(polynomial_of(1, -2, 1)), [as_surd((1, 1))])
        for way in (1, -1):
            self.assertEqual(zeros(polynomial_of(-2 * way, 0, way)), [((0, 1), -1, (2, 1)), ROOT_TWO])
            self.assertEqual(zeros(polynomial_of(2 * way, -3 * way, way)), [as_surd((1, 1)), as_surd((2, 1))])

    def test_made_ones(self):
        for polynomial in made_polynomials(9, 300):
            found = zeros(polynomial)
            for surd in found:
                self.assertEqual(surd_at(polynomial, surd), as_surd((0, 1)))
            self.assertTrue(all([compare(one, other) < 0 for one, other in zip(found, found[1:])]))
            rows = signs(polynomial)
            self.assertEqual((rows[0][0], rows[-1][1]), (None, None))
            self.assertEqual([row[1] for row in rows[:-1]], found)
            for low, high, told in rows:
                x = Fraction(0)
                if low is not None or high is not None:
                    x = number_below(low) + 9 if high is None else number_below(high) - 9
                if low is not None and high is not None:
                    x = (number_below(low) + number_below(high)) / 2
                value = right_value(polynomial, x)
                self.assertEqual(told, (value > 0) - (value < 0))


class LowestTest(unittest.TestCase):

    def test_lowest(self):
        one, two = as_surd((1, 1)), as_surd((2, 1))
        self.assertEqual(lowest(polynomial_of(5, 0, 0), None, None), as_surd((5, 1)))
        self.assertEqual(lowest(polynomial_of(5, 1, 0), one, None), as_surd((6, 1)))
        self.assertEqual(lowest(polynomial_of(5, -1, 0), None, two), as_surd((3, 1)))
        self.assertEqual(lowest(polynomial_of(5, -1, 0), one, ROOT_TWO), ((5, 1), -1, (2, 1)))
        self.assertEqual(lowest(polynomial_of(0, -3, 1), None, None), as_surd((-9, 4)))
        self.assertEqual(lowest(polynomial_of(0, -3, 1), one, two), as_surd((-9, 4)))
        self.assertEqual(lowest(polynomial_of(0, -3, 1), two, None), as_surd((-2, 1)))
        self.assertEqual(lowest(polynomial_of(0, 4, -1), one, two), as_surd((3, 1)))
        self.assertEqual(lowest(polynomial_of(0, 4, -1), one, one), as_surd((3, 1)))

    def test_endless(self):
        one = as_surd((1, 1))
        rows = [(polynomial_of(0, 1, 0), None, one), (polynomial_of(0, -1, 0), one, None),
                (polynomial_of(9, 9, -1), one, None), (polynomial_of(9, 9, -1), None, one),
                (polynomial_of(0, 1, 0), None, None), (polynomial_of(0, -1, 0), None, None)]
        for polynomial, low, high in rows:
            self.assertIs(lowest(polynomial, low, high), None)

    def test_made_ones(self):
        maker = Maker(10)
        for polynomial in made_polynomials(11, 200):
            low, high = sorted([number(maker.fraction()), number(maker.fraction())])
            told = lowest(polynomial, as_surd(pair(low)), as_surd(pair(high)))
            values = [right_value(polynomial, low + (high - low) * Fraction(at, 50)) for at in range(51)]
            self.assertLessEqual(number(told[0]), min(values))
            self.assertLess(min(values) - number(told[0]), Fraction(1, 2))


if __name__ == "__main__":
    unittest.main()
