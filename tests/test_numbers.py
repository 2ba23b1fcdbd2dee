"""spoutlines.numbers (points 3 to 6 of the document)."""

import unittest
from fractions import Fraction
from math import isqrt

from spoutlines.errors import InvalidFraction, InvalidNumber, InvalidSurd
from spoutlines.numbers import compare, is_fraction, is_surd, near, surd_of, surd_plus, surd_times
from tests.samples import FRACTIONS, NO_FRACTIONS, NO_SURDS, STRANGE, SURDS, check_arguments, error_of

NO_NUMBERS = STRANGE + [0, -1, 10 ** 12 + 1, 10 ** 30, -(10 ** 12), (1, 1), (1,), [1], "1"]
BELOW_ZERO = [(-1, 1), (-1, 2), (-2, 1), (-4, 9), (-(10 ** 400), 3)]
ROOT_TWO = ((0, 1), 1, (2, 1))


def small_fractions():
    pairs = [(n, m) for m in (1, 2, 3, 4) for n in range(-6, 7)]
    return [pair for pair in pairs if is_fraction(pair)]


def small_surds():
    parts = [(0, 1), (1, 1), (-1, 1), (1, 2), (-3, 2), (1, 3), (7, 5), (-7, 5)]
    squares = [(2, 1), (3, 1), (1, 2), (8, 1), (2, 9), (9, 8), (5, 4), (6, 1)]
    surds = [(part, 0, (0, 1)) for part in parts]
    return surds + [(part, way, square) for part in parts for way in (1, -1) for square in squares]


def scaled(surd, scale=10 ** 60):
    """The greatest whole number up to scale * surd, by another way than that of the program."""
    part, way, square = surd
    low = high = Fraction(*part) * scale
    if way != 0:
        unit = 10 ** 30
        root = isqrt(square[0] * scale * scale * unit * unit // square[1])
        ends = (Fraction(way * root, unit), Fraction(way * (root + 1), unit))
        low, high = low + min(ends), high + max(ends)
    floors = (low.numerator // low.denominator, high.numerator // high.denominator)
    assert floors[0] == floors[1]
    return floors[0]


class IsFractionTest(unittest.TestCase):

    def test_fractions(self):
        for value in FRACTIONS:
            self.assertIs(is_fraction(value), True)
            self.assertIs(is_fraction(value=value), True)

    def test_anything_else(self):
        for value in NO_FRACTIONS:
            self.assertIs(is_fraction(value), False)

    def test_small_pairs(self):
        for n in range(-12, 13):
            for m in range(-3, 13):
                right = m > 0 and Fraction(n, m).denominator == m
                self.assertIs(is_fraction((n, m)), right, (n, m))
                self.assertIs(is_fraction([n, m]), False)


class IsSurdTest(unittest.TestCase):

    def test_surds(self):
        for value in SURDS + small_surds():
            self.assertIs(is_surd(value), True)
            self.assertIs(is_surd(value=value), True)

    def test_anything_else(self):
        for value in NO_SURDS:
            self.assertIs(is_surd(value), False)

    def test_fractions_are_no_surds(self):
        for value in FRACTIONS:
            self.assertIs(is_surd(value), False)

    def test_squares_of_fractions_are_barred(self):
        squares = [Fraction(n * n, m * m) for n in range(0, 9) for m in range(1, 9)]
        for n in range(-3, 50):
            for m in range(1, 50):
                if is_fraction((n, m)):
                    right = n > 0 and Fraction(n, m) not in squares
                    self.assertIs(is_surd(((1, 3), 1, (n, m))), right)
                    self.assertIs(is_surd(((1, 3), -1, (n, m))), right)
                    self.assertIs(is_surd(((1, 3), 0, (n, m))), n == 0)


class SurdOfTest(unittest.TestCase):

    def test_examples_of_the_document(self):
        self.assertEqual(surd_of((1, 2), (2, 1), (2, 1)), ((1, 2), 1, (8, 1)))
        self.assertEqual(surd_of((1, 1), (-1, 2), (9, 4)), ((1, 4), 0, (0, 1)))
        self.assertEqual(surd_of((0, 1), (1, 1), (0, 1)), ((0, 1), 0, (0, 1)))
        self.assertIs(is_surd(((1, 2), 1, (4, 1))), False)
        self.assertIs(is_surd(((1, 2), 0, (0, 1))), True)

    def test_a_root_that_is_a_fraction(self):
        self.assertEqual(surd_of((1, 3), (3, 2), (4, 9)), ((4, 3), 0, (0, 1)))
        self.assertEqual(surd_of((1, 3), (-1, 2), (4, 9)), ((0, 1), 0, (0, 1)))
        self.assertEqual(surd_of((0, 1), (1, 10 ** 200), (10 ** 400, 1)), ((1, 1), 0, (0, 1)))

    def test_only_one_of_the_two_numbers_is_a_square(self):
        self.assertEqual(surd_of((0, 1), (1, 1), (4, 3)), ((0, 1), 1, (4, 3)))
        self.assertEqual(surd_of((0, 1), (1, 1), (3, 4)), ((0, 1), 1, (3, 4)))

    def test_factors(self):
        self.assertEqual(surd_of((5, 7), (0, 1), (2, 1)), ((5, 7), 0, (0, 1)))
        self.assertEqual(surd_of((5, 7), (0, 1), (4, 1)), ((5, 7), 0, (0, 1)))
        self.assertEqual(surd_of((5, 7), (-2, 3), (3, 1)), ((5, 7), -1, (4, 3)))
        self.assertEqual(surd_of((5, 7), (3, 2), (2, 9)), ((5, 7), 1, (1, 2)))
        self.assertEqual(surd_of((5, 7), (-4, 1), (0, 1)), ((5, 7), 0, (0, 1)))

    def test_all_small_ones(self):
        for part in [(0, 1), (2, 3), (-5, 2)]:
            for factor in small_fractions():
                for square in [one for one in small_fractions() if one[0] >= 0]:
                    surd = surd_of(part, factor, square)
                    self.assertTrue(is_surd(surd), surd)
                    rest = Fraction(*surd[0]) - Fraction(*part)
                    squared = Fraction(*factor) ** 2 * Fraction(*square)
                    if surd[1] == 0:
                        self.assertEqual(rest ** 2, squared)
                        self.assertGreaterEqual(rest * Fraction(*factor), 0)
                    else:
                        self.assertEqual((rest, Fraction(*surd[2])), (0, squared))
                        self.assertGreater(surd[1] * Fraction(*factor), 0)

    def test_wrong_arguments(self):
        check_arguments(self, surd_of, [
            ("part", (1, 2), InvalidFraction, NO_FRACTIONS),
            ("factor", (2, 1), InvalidFraction, NO_FRACTIONS),
            ("fraction", (2, 1), InvalidFraction, NO_FRACTIONS + BELOW_ZERO),
        ])

    def test_part_and_factor_may_be_below_zero(self):
        self.assertEqual(surd_of((-1, 1), (-1, 1), (2, 1)), ((-1, 1), -1, (2, 1)))

    def test_the_fraction_below_zero_is_told_whatever_the_factor(self):
        error = error_of(surd_of, (1, 2), (0, 1), (-4, 1))
        self.assertIs(error.__class__, InvalidFraction)
        self.assertEqual(error.given, (-4, 1))


class SurdPlusAndTimesTest(unittest.TestCase):

    def test_examples_of_the_document(self):
        self.assertEqual(surd_plus(ROOT_TWO, (1, 2)), ((1, 2), 1, (2, 1)))
        self.assertEqual(surd_times(ROOT_TWO, (-3, 1)), ((0, 1), -1, (18, 1)))

    def test_plus(self):
        self.assertEqual(surd_plus(((1, 6), -1, (3, 1)), (1, 3)), ((1, 2), -1, (3, 1)))
        self.assertEqual(surd_plus(((1, 6), -1, (3, 1)), (0, 1)), ((1, 6), -1, (3, 1)))
        self.assertEqual(surd_plus(((1, 6), 1, (3, 1)), (-1, 6)), ((0, 1), 1, (3, 1)))
        self.assertEqual(surd_plus(((1, 6), 0, (0, 1)), (-2, 3)), ((-1, 2), 0, (0, 1)))

    def test_times(self):
        self.assertEqual(surd_times(((1, 6), -1, (3, 1)), (3, 2)), ((1, 4), -1, (27, 4)))
        self.assertEqual(surd_times(((1, 6), -1, (3, 1)), (-1, 3)), ((-1, 18), 1, (1, 3)))
        self.assertEqual(surd_times(((1, 6), -1, (3, 1)), (1, 1)), ((1, 6), -1, (3, 1)))
        self.assertEqual(surd_times(((1, 6), 1, (3, 1)), (0, 1)), ((0, 1), 0, (0, 1)))
        self.assertEqual(surd_times(((1, 6), 0, (0, 1)), (-3, 1)), ((-1, 2), 0, (0, 1)))
        self.assertEqual(surd_times(((1, 6), 0, (0, 1)), (0, 1)), ((0, 1), 0, (0, 1)))

    def test_all_small_ones(self):
        for surd in small_surds():
            for fraction in small_fractions():
                told = surd_plus(surd, fraction)
                self.assertTrue(is_surd(told))
                self.assertEqual(told[1:], surd[1:])
                self.assertEqual(Fraction(*told[0]), Fraction(*surd[0]) + Fraction(*fraction))
                told, factor = surd_times(surd, fraction), Fraction(*fraction)
                self.assertTrue(is_surd(told))
                self.assertEqual(Fraction(*told[0]), Fraction(*surd[0]) * factor)
                self.assertEqual(told[1] * Fraction(*told[2]), surd[1] * Fraction(*surd[2]) * factor * abs(factor))

    def test_wrong_arguments(self):
        for function in (surd_plus, surd_times):
            check_arguments(self, function, [
                ("surd", ROOT_TWO, InvalidSurd, NO_SURDS),
                ("fraction", (-1, 2), InvalidFraction, NO_FRACTIONS),
            ])


class CompareTest(unittest.TestCase):

    def check_order(self, surds):
        """All these surds ascend."""
        for at, surd in enumerate(surds):
            for where, other in enumerate(surds):
                self.assertEqual(compare(surd, other), (at > where) - (at < where), (at, where))

    def test_examples_of_the_document(self):
        root_three = surd_of((0, 1), (1, 1), (3, 1))
        self.assertEqual(compare(ROOT_TWO, root_three), -1)
        self.assertEqual(compare(surd_plus(ROOT_TWO, (1, 3)), root_three), 1)

    def test_fractions_and_one_root(self):
        self.check_order([
            ((-3, 1), 0, (0, 1)), ((0, 1), -1, (2, 1)), ((-7, 5), 0, (0, 1)), ((1, 1), -1, (2, 1)), ((0, 1), 0, (0, 1)),
            ((-1, 1), 1, (2, 1)), ((2, 1), -1, (2, 1)), ((7, 5), 0, (0, 1)), ((0, 1), 1, (2, 1)), ((3, 2), 0, (0, 1)),
            ((0, 1), 1, (8, 1)), ((3, 1), 1, (2, 1)),
        ])

    def test_one_root_beside_itself_below_zero(self):
        self.check_order([((0, 1), -1, (2, 1)), ((1, 10 ** 9), -1, (2, 1)), ROOT_TWO, ((1, 10 ** 9), 1, (2, 1))])
        self.check_order([((5, 1), -1, (2, 1)), ((5, 1), 1, (2, 1))])

    def test_all_small_ones(self):
        surds = [(surd, scaled(surd)) for surd in small_surds()]
        for surd, near_it in surds:
            for other, near_other in surds:
                # Two unlike ones among these are farther from one another than the unit of `scaled`.
                self.assertEqual(near_it == near_other, surd == other)
                told = compare(surd, other)
                self.assertEqual(told, (near_it > near_other) - (near_it < near_other), (surd, other))
                self.assertIs(told.__class__, int)

    def test_near_one_another(self):
        # n * n is 2 * m * m + 1 or 2 * m * m - 1: n / m is above and below root(2) in turn.
        n, m = 1, 1
        for _ in range(500):
            fraction = ((n, m), 0, (0, 1))
            above = n * n > 2 * m * m
            self.assertEqual(compare(fraction, ROOT_TWO), 1 if above else -1)
            self.assertEqual(compare(ROOT_TWO, fraction), -1 if above else 1)
            minus_root = surd_times(ROOT_TWO, (-1, 1))
            self.assertEqual(compare(((-n, m), 0, (0, 1)), minus_root), -1 if above else 1)
            self.assertEqual(compare(surd_plus(minus_root, (n, m)), ((0, 1), 0, (0, 1))), 1 if above else -1)
            n, m = n + 2 * m, n + m

    def test_unlike_roots_near_one_another(self):
        for unit in (10 ** 20, 10 ** 150):
            for one, other in ((2, 3), (3, 2), (5, 7), (8, 12), (10 ** 9, 10 ** 9 - 1)):
                for ways in ((1, 1), (1, -1), (-1, 1), (-1, -1)):
                    first = ((0, 1), ways[0], (one, 1))
                    second = ((0, 1), ways[1], (other, 1))
                    part = self.difference_below(first, second, unit)
                    told = [compare(surd_plus(second, self.fraction(part + at, unit)), first) for at in (0, 1)]
                    self.assertEqual(told, [-1, 1], (one, other, ways))

    def fraction(self, n, m):
        made = Fraction(n, m)
        return (made.numerator, made.denominator)

    def difference_below(self, first, second, unit):
        """The greatest n such that n / unit is not above the first surd less the second one."""
        scale = unit * 10 ** 20
        return (scaled(first, scale) - scaled(second, scale)) // 10 ** 20

    def test_near_one_another_by_their_roots_alone(self):
        for big in (10 ** 9, 10 ** 50):
            below, above = ((0, 1), 1, (big * big - 1, 1)), ((0, 1), 1, (big * big + 1, 1))
            # Its square is more than that of `above` by 1 / (4 * big * big).
            just_above = ((2 * big * big + 1, 2 * big), 0, (0, 1))
            self.check_order([
                ((0, 1), -1, above[2]), ((-big, 1), 0, (0, 1)), ((0, 1), -1, below[2]), ((big - 1, 1), 0, (0, 1)),
                below, ((big, 1), 0, (0, 1)), above, just_above, ((big + 1, 1), 0, (0, 1)),
            ])

    def test_very_great_numbers(self):
        one = ((10 ** 399, 10 ** 399 - 1), 1, (10 ** 399 + 1, 10 ** 400))
        for surd in SURDS + [one]:
            for other in SURDS + [one]:
                near_it, near_other = scaled(surd, 10 ** 900), scaled(other, 10 ** 900)
                told = compare(surd, other)
                self.assertEqual(told, (near_it > near_other) - (near_it < near_other))
        self.assertEqual(compare(surd_plus(one, (1, 10 ** 390)), one), 1)

    def test_wrong_arguments(self):
        check_arguments(self, compare, [
            ("surd", ROOT_TWO, InvalidSurd, NO_SURDS),
            ("other", ((1, 2), 0, (0, 1)), InvalidSurd, NO_SURDS),
        ])


class NearTest(unittest.TestCase):

    def test_examples_of_the_document(self):
        self.assertEqual(near(ROOT_TWO, 100), (141, False))
        self.assertEqual(near(surd_times(ROOT_TWO, (-1, 1)), 1), (-2, False))
        self.assertEqual(near(((3, 2), 0, (0, 1)), 2), (3, True))

    def test_fractions(self):
        self.assertEqual(near(((3, 2), 0, (0, 1)), 1), (1, False))
        self.assertEqual(near(((-3, 2), 0, (0, 1)), 1), (-2, False))
        self.assertEqual(near(((-3, 2), 0, (0, 1)), 2), (-3, True))
        self.assertEqual(near(((-3, 2), 0, (0, 1)), 6), (-9, True))
        self.assertEqual(near(((3, 2), 0, (0, 1)), 3), (4, False))
        self.assertEqual(near(((0, 1), 0, (0, 1)), 7), (0, True))
        self.assertEqual(near(((1, 10 ** 12), 0, (0, 1)), 10 ** 12), (1, True))
        self.assertEqual(near(((1, 10 ** 12 + 1), 0, (0, 1)), 10 ** 12), (0, False))
        self.assertEqual(near(((-1, 10 ** 12 + 1), 0, (0, 1)), 10 ** 12), (-1, False))

    def test_roots(self):
        self.assertEqual(near(ROOT_TWO, 1), (1, False))
        self.assertEqual(near(ROOT_TWO, 10 ** 12), (1414213562373, False))
        self.assertEqual(near(surd_times(ROOT_TWO, (-1, 1)), 10 ** 12), (-1414213562374, False))
        self.assertEqual(near(((0, 1), 1, (1, 2)), 10), (7, False))
        self.assertEqual(near(((1, 3), -1, (1, 2)), 10), (-4, False))
        self.assertEqual(near(((10 ** 9, 1), -1, (10 ** 18 - 1, 1)), 10 ** 9), (0, False))
        self.assertEqual(near(((10 ** 9, 1), -1, (10 ** 18 + 1, 1)), 10 ** 9), (-1, False))

    def test_all_small_ones(self):
        for surd in small_surds():
            for many in (1, 2, 3, 7, 10, 60, 10 ** 6):
                told = near(surd, many)
                self.assertEqual(told[0], scaled(surd, many * 10 ** 40) // 10 ** 40, (surd, many))
                just = surd[1] == 0 and Fraction(told[0], many) == Fraction(*surd[0])
                self.assertIs(told[1], just)
                self.assertIs(told[0].__class__, int)

    def test_very_great_numbers(self):
        for surd in SURDS:
            for many in (1, 7, 10 ** 12):
                self.assertEqual(near(surd, many)[0], scaled(surd, many * 10 ** 900) // 10 ** 900)

    def test_wrong_arguments(self):
        check_arguments(self, near, [
            ("surd", ROOT_TWO, InvalidSurd, NO_SURDS),
            ("many", 1, InvalidNumber, NO_NUMBERS),
        ])
        check_arguments(self, near, [
            ("surd", ((-3, 2), 0, (0, 1)), InvalidSurd, NO_SURDS),
            ("many", 10 ** 12, InvalidNumber, NO_NUMBERS),
        ])


class CallsTest(unittest.TestCase):

    def test_by_name(self):
        self.assertEqual(surd_of(fraction=(2, 1), factor=(2, 1), part=(1, 2)), ((1, 2), 1, (8, 1)))
        self.assertEqual(surd_plus(fraction=(1, 2), surd=ROOT_TWO), ((1, 2), 1, (2, 1)))
        self.assertEqual(surd_times(fraction=(2, 1), surd=ROOT_TWO), ((0, 1), 1, (8, 1)))
        self.assertEqual(compare(other=ROOT_TWO, surd=((1, 1), 0, (0, 1))), -1)
        self.assertEqual(near(many=100, surd=ROOT_TWO), (141, False))

    def test_equal_calls_return_equal_results(self):
        for surd in SURDS:
            for _ in range(2):
                self.assertEqual(surd_of(surd[0], (surd[1], 1), surd[2]), surd)
                self.assertEqual(surd_plus(surd, (0, 1)), surd)
                self.assertEqual(surd_times(surd, (1, 1)), surd)
                self.assertEqual(compare(surd, surd), 0)
                self.assertEqual(near(surd, 5), near(surd, 5))

    def test_results_are_tuples_of_whole_numbers(self):
        results = [surd_of((1, 2), (2, 1), (2, 1)), surd_of((1, 2), (2, 1), (4, 1)), surd_plus(ROOT_TWO, (1, 2)),
                   surd_times(ROOT_TWO, (-1, 2)), surd_times(ROOT_TWO, (0, 1))]
        for part, way, square in results:
            for number in (*part, way, *square):
                self.assertIs(number.__class__, int)
            self.assertEqual((part.__class__, square.__class__), (tuple, tuple))
        self.assertEqual({result.__class__ for result in results}, {tuple})
        self.assertIs(near(ROOT_TWO, 1).__class__, tuple)


if __name__ == "__main__":
    unittest.main()
