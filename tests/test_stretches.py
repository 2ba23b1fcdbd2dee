"""spoutlines.stretches: stretches of numbers, parts upon them, and fractions between surds."""

import unittest
from fractions import Fraction

from spoutlines.numbers import compare, is_fraction
from spoutlines.polynomials import as_surd, value_at
from spoutlines.stretches import (
    clipped, common, envelope, fraction_between, order_of, overlaid, stretch_under, where_from_zero,
)
from tests.oracle import Maker, number, pair

ROOT_TWO, ROOT_THREE = ((0, 1), 1, (2, 1)), ((0, 1), 1, (3, 1))
ONE, TWO, THREE = [as_surd((n, 1)) for n in (1, 2, 3)]
PARTS = [(None, ONE, "a"), (ONE, TWO, "b"), (TWO, None, "c")]


def polynomial_of(*numbers):
    return tuple([pair(one) for one in numbers])


class StretchesTest(unittest.TestCase):

    def test_common(self):
        self.assertEqual(common([]), (None, None))
        self.assertEqual(common([(None, TWO), (ROOT_TWO, None), (ONE, THREE)]), (ROOT_TWO, TWO))
        self.assertEqual(common([(None, TWO), (TWO, None)]), (TWO, TWO))
        self.assertIs(common([(None, ROOT_TWO), (ROOT_THREE, None)]), None)
        self.assertIs(common([(None, None), None]), None)

    def test_order(self):
        self.assertEqual([order_of(None, ONE), order_of(ONE, None), order_of(ONE, TWO)], [-1, -1, -1])
        self.assertEqual([order_of(ONE, ONE), order_of(TWO, ONE)], [0, 1])

    def test_clipped(self):
        self.assertEqual(clipped(PARTS, None, None), PARTS)
        self.assertEqual(clipped(PARTS, ROOT_TWO, THREE), [(ROOT_TWO, TWO, "b"), (TWO, THREE, "c")])
        self.assertEqual(clipped(PARTS, ONE, TWO), [(ONE, TWO, "b")])
        self.assertEqual(clipped(PARTS, ROOT_TWO, ROOT_TWO), [(ROOT_TWO, ROOT_TWO, "b")])
        self.assertEqual([part[:2] for part in clipped(PARTS, TWO, TWO)], [(TWO, TWO)])
        self.assertEqual(clipped(PARTS, THREE, THREE), [(THREE, THREE, "c")])

    def test_overlaid(self):
        others = [(None, ROOT_TWO, "x"), (ROOT_TWO, None, "y")]
        self.assertEqual(overlaid(PARTS, others), [
            (None, ONE, "a", "x"), (ONE, ROOT_TWO, "b", "x"), (ROOT_TWO, TWO, "b", "y"), (TWO, None, "c", "y")])

    def test_where_from_zero(self):
        self.assertEqual(where_from_zero(polynomial_of(2, 0, -1)), (((0, 1), -1, (2, 1)), ROOT_TWO))
        self.assertEqual(where_from_zero(polynomial_of(-1, 2, -1)), (ONE, ONE))
        self.assertIs(where_from_zero(polynomial_of(-1, 1, -1)), None)
        self.assertEqual(where_from_zero(polynomial_of(-1, 1, 0)), (ONE, None))
        self.assertEqual(where_from_zero(polynomial_of(1, -1, 0)), (None, ONE))
        self.assertEqual(where_from_zero(polynomial_of(0, 0, 0)), (None, None))
        self.assertEqual(where_from_zero(polynomial_of(1, 0, 0)), (None, None))
        self.assertIs(where_from_zero(polynomial_of(-1, 0, 0)), None)

    def test_stretch_under(self):
        curve = [(None, ONE, polynomial_of(0, 0, 0)), (ONE, None, polynomial_of(1, -2, 1))]
        self.assertEqual(stretch_under(curve, polynomial_of(2, 0, 0)), (None, ((1, 1), 1, (2, 1))))
        self.assertEqual(stretch_under(curve, polynomial_of(0, 0, 0)), (None, ONE))
        self.assertEqual(stretch_under(curve, polynomial_of(-1, 1, 0)), (ONE, TWO))
        self.assertIs(stretch_under(curve, polynomial_of(-1, 0, 0)), None)

    def test_envelopes(self):
        maker = Maker(1)
        for _ in range(100):
            polynomials = [tuple([maker.fraction() for _ in range(3)]) for _ in range(3)]
            for way, best in ((1, max), (-1, min)):
                found = [(None, None, polynomials[0])]
                for polynomial in polynomials[1:]:
                    found = envelope(found, [(None, None, polynomial)], way)
                self.assertEqual((found[0][0], found[-1][1]), (None, None))
                for part, later in zip(found, found[1:]):
                    self.assertEqual(part[1], later[0])
                    self.assertNotEqual(part[2], later[2])
                for _ in range(5):
                    slope = maker.fraction()
                    [(_, _, told)] = clipped(found, as_surd(slope), as_surd(slope))
                    right = best([number(value_at(polynomial, slope)) for polynomial in polynomials])
                    self.assertEqual(number(value_at(told, slope)), right)


class FractionBetweenTest(unittest.TestCase):

    def check(self, low, high):
        told = fraction_between(low, high)
        self.assertTrue(is_fraction(told))
        self.assertTrue(low is None or compare(low, as_surd(told)) < 0)
        self.assertTrue(high is None or compare(as_surd(told), high) < 0)

    def test_endless(self):
        for end in (ONE, ROOT_TWO, as_surd((-7, 2)), ((0, 1), -1, (2, 1)), as_surd((10 ** 30, 1))):
            self.check(None, end)
            self.check(end, None)
        self.check(None, None)

    def test_close_together(self):
        for bit in (1, 10 ** 9, 10 ** 50, 10 ** 400):
            for begin in (ROOT_TWO, ONE, ((-1, 1), -1, (3, 1))):
                part, way, square = begin
                end = (pair(number(part) + Fraction(1, bit)), way, square)
                self.check(begin, end)
            self.check(((0, 1), 1, (2, 1)), ((0, 1), 1, pair(2 + Fraction(1, bit * bit + 1))))
        self.check(as_surd((0, 1)), as_surd((1, 3)))
        self.check(as_surd((1, 3)), as_surd((1, 2)))


if __name__ == "__main__":
    unittest.main()
