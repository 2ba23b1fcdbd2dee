"""spoutlines.arithmetic: what the other files reckon with."""

import unittest
from fractions import Fraction

from spoutlines.arithmetic import (
    is_below, is_whole, minus, negative, plus, quotient, reduced, sign, sign_with_root, square_root, times,
)
from tests.samples import STRANGE

SMALL = [reduced(n, m) for m in (1, 2, 3, 4, 9) for n in range(-9, 10)]


class ArithmeticTest(unittest.TestCase):

    def test_whole_numbers(self):
        for value in (0, 1, -1, 10 ** 5000):
            self.assertIs(is_whole(value), True)
        for value in STRANGE:
            self.assertIs(is_whole(value), False)

    def test_sign(self):
        self.assertEqual([sign(number) for number in (-7, -1, 0, 1, 10 ** 30)], [-1, -1, 0, 1, 1])

    def test_reduced(self):
        self.assertEqual([reduced(6, 4), reduced(-6, 4)], [(3, 2), (-3, 2)])
        self.assertEqual([reduced(0, 5), reduced(5, 5)], [(0, 1), (1, 1)])

    def test_sums_and_products(self):
        for one in SMALL:
            for other in SMALL[::3]:
                first, second = Fraction(*one), Fraction(*other)
                for told, right in ((plus, first + second), (minus, first - second), (times, first * second)):
                    self.assertEqual(told(one, other), (right.numerator, right.denominator))

    def test_quotients_and_orders(self):
        for one in SMALL:
            self.assertEqual(negative(one), (-one[0], one[1]))
            for other in SMALL[::3]:
                first, second = Fraction(*one), Fraction(*other)
                self.assertIs(is_below(one, other), first < second)
                if second != 0:
                    right = first / second
                    self.assertEqual(quotient(one, other), (right.numerator, right.denominator))

    def test_square_root(self):
        self.assertEqual([square_root((0, 1)), square_root((4, 9)), square_root((1, 1))], [(0, 1), (2, 3), (1, 1)])
        self.assertEqual([square_root((4, 3)), square_root((3, 4)), square_root((2, 1))], [None, None, None])

    def test_sign_with_root(self):
        for part in SMALL[::2]:
            for factor in SMALL[::2]:
                for fraction in [(0, 1), (4, 9), (2, 1), (9, 4), (1, 3)]:
                    first, second = Fraction(*part), Fraction(*factor)
                    # Greater by its square is farther from 0.
                    first, second = first * abs(first), second * abs(second) * Fraction(*fraction)
                    self.assertEqual(sign_with_root(part, factor, fraction), sign(first + second))


if __name__ == "__main__":
    unittest.main()
