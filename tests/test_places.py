"""spoutlines.places (points 3 to 5, 7 and 8 of the document)."""

import unittest
from fractions import Fraction
from math import gcd

from spoutlines.errors import InvalidDistance, InvalidFraction, InvalidNumber, InvalidPlace, InvalidPoint
from spoutlines.places import distance_of, grown, height_of, is_place, is_point, place_of, seen_from, sheared
from tests.samples import AHEAD, FRACTIONS, NO_FRACTIONS, NO_POINTS, NOT_AHEAD, STRANGE, check_arguments

NOT_ABOVE_ZERO = [(0, 1), (-1, 1), (-1, 2), (-22, 7), (-(10 ** 400), 3)]
NO_WAYS = STRANGE + [0, 2, -2, 10 ** 30, (1, 1), (-1, 1), (1,), [1], "1", "-1"]
SMALL = [(n, m) for m in (1, 2, 3, 4, 6) for n in range(-7, 8) if gcd(n, m) == 1]
POINTS = [(x, y, w) for w in (1, 2, 6) for x in range(-4, 5) for y in range(-3, 4) if gcd(x, y, w) == 1]


def as_pair(point):
    return (Fraction(point[0], point[2]), Fraction(point[1], point[2]))


class IsPointTest(unittest.TestCase):

    def test_points(self):
        for value in AHEAD + NOT_AHEAD:
            self.assertIs(is_point(value), True)
            self.assertIs(is_point(value=value), True)

    def test_places(self):
        for value in AHEAD:
            self.assertIs(is_place(value), True)
            self.assertIs(is_place(value=value), True)

    def test_what_is_not_ahead_is_no_place(self):
        for value in NOT_AHEAD:
            self.assertIs(is_place(value), False)

    def test_anything_else(self):
        for value in NO_POINTS + FRACTIONS:
            self.assertIs(is_point(value), False)
            self.assertIs(is_place(value), False)

    def test_small_triples(self):
        for x in range(-4, 7):
            for y in range(-4, 7):
                for w in range(-2, 7):
                    right = w > 0 and gcd(gcd(x, y), w) == 1
                    self.assertIs(is_point((x, y, w)), right)
                    self.assertIs(is_place((x, y, w)), right and x > 0)
                    self.assertIs(is_point([x, y, w]), False)


class PlaceOfTest(unittest.TestCase):

    def test_examples_of_the_document(self):
        self.assertIs(is_place((1, 0, 2)), True)
        self.assertIs(is_place((0, 1, 1)), False)
        self.assertEqual(place_of((3, 2), (-1, 4)), (6, -1, 4))
        self.assertEqual(distance_of((6, -1, 4)), (3, 2))
        self.assertEqual(height_of((6, -1, 4)), (-1, 4))

    def test_small_ones(self):
        for distance in [one for one in SMALL if one[0] > 0]:
            for height in SMALL:
                place = place_of(distance, height)
                self.assertTrue(is_place(place), place)
                self.assertEqual(as_pair(place), (Fraction(*distance), Fraction(*height)))
                self.assertEqual(distance_of(place), distance)
                self.assertEqual(height_of(place), height)

    def test_all_places_come_back(self):
        for place in AHEAD + [one for one in POINTS if one[0] > 0]:
            self.assertEqual(place_of(distance_of(place), height_of(place)), place)

    def test_wrong_arguments(self):
        check_arguments(self, place_of, [
            ("distance", (1, 2), InvalidDistance, NO_FRACTIONS + NOT_ABOVE_ZERO),
            ("height", (-1, 2), InvalidFraction, NO_FRACTIONS),
        ])
        for function in (distance_of, height_of):
            check_arguments(self, function, [("place", (1, 0, 1), InvalidPlace, NO_POINTS + NOT_AHEAD)])


class GrownAndShearedTest(unittest.TestCase):

    def test_examples_of_the_document(self):
        self.assertEqual(grown((6, -1, 4), (2, 1)), (6, -1, 2))
        self.assertEqual(sheared((6, -1, 4), (1, 2)), (3, 1, 2))

    def test_grown(self):
        self.assertEqual(grown((6, -1, 4), (1, 1)), (6, -1, 4))
        self.assertEqual(grown((6, -1, 4), (2, 3)), (6, -1, 6))
        self.assertEqual(grown((6, -9, 4), (2, 3)), (2, -3, 2))
        self.assertEqual(grown((1, 0, 3), (3, 1)), (1, 0, 1))

    def test_sheared(self):
        self.assertEqual(sheared((6, -1, 4), (0, 1)), (6, -1, 4))
        self.assertEqual(sheared((6, -1, 4), (-1, 2)), (3, -2, 2))
        self.assertEqual(sheared((1, 1, 1), (-1, 1)), (1, 0, 1))
        self.assertEqual(sheared((1, 0, 3), (1, 5)), (5, 1, 15))

    def test_small_ones(self):
        for place in [one for one in POINTS if one[0] > 0]:
            x, y = as_pair(place)
            for fraction in SMALL:
                told = sheared(place, fraction)
                self.assertTrue(is_place(told))
                self.assertEqual(as_pair(told), (x, y + Fraction(*fraction) * x))
                if fraction[0] > 0:
                    told = grown(place, fraction)
                    self.assertTrue(is_place(told))
                    self.assertEqual(as_pair(told), (Fraction(*fraction) * x, Fraction(*fraction) * y))

    def test_very_great_numbers(self):
        place, fraction = AHEAD[-1], (10 ** 400 + 1, 10 ** 400)
        x, y = as_pair(place)
        for told in (grown(place, fraction), sheared(place, fraction)):
            self.assertTrue(is_place(told))
        self.assertEqual(as_pair(grown(place, fraction)), (x * Fraction(*fraction), y * Fraction(*fraction)))
        self.assertEqual(as_pair(sheared(place, fraction)), (x, y + x * Fraction(*fraction)))
        self.assertEqual(grown(grown(place, fraction), fraction[::-1]), place)

    def test_wrong_arguments(self):
        check_arguments(self, grown, [
            ("place", (1, 0, 1), InvalidPlace, NO_POINTS + NOT_AHEAD),
            ("fraction", (1, 2), InvalidFraction, NO_FRACTIONS + NOT_ABOVE_ZERO),
        ])
        check_arguments(self, sheared, [
            ("place", (1, 0, 1), InvalidPlace, NO_POINTS + NOT_AHEAD),
            ("fraction", (-1, 2), InvalidFraction, NO_FRACTIONS),
        ])


class SeenFromTest(unittest.TestCase):

    def test_examples_of_the_document(self):
        self.assertEqual(seen_from((1, 1, 1), 1, (3, 0, 1)), (2, -1, 1))
        self.assertIs(seen_from((1, 1, 1), -1, (3, 0, 1)), None)
        self.assertEqual(seen_from((1, 1, 1), -1, (0, 5, 2)), (2, 3, 2))

    def test_straight_above_is_not_ahead(self):
        for way in (1, -1):
            self.assertIs(seen_from((1, 1, 2), way, (1, 7, 2)), None)
            self.assertIs(seen_from((1, 1, 2), way, (1, 1, 2)), None)

    def test_behind(self):
        self.assertIs(seen_from((1, 1, 2), 1, (0, 7, 1)), None)
        self.assertIs(seen_from((1, 1, 2), -1, (1, 7, 1)), None)

    def test_small_ones(self):
        for point in POINTS[::5]:
            for other in POINTS:
                x, y = [there - here for here, there in zip(as_pair(point), as_pair(other))]
                for way in (1, -1):
                    told = seen_from(point, way, other)
                    if way * x > 0:
                        self.assertTrue(is_place(told))
                        self.assertEqual(as_pair(told), (way * x, y))
                    else:
                        self.assertIs(told, None)

    def test_wrong_arguments(self):
        check_arguments(self, seen_from, [
            ("point", (0, 0, 1), InvalidPoint, NO_POINTS),
            ("way", 1, InvalidNumber, NO_WAYS),
            ("other", (-1, 0, 1), InvalidPoint, NO_POINTS),
        ])
        check_arguments(self, seen_from, [
            ("point", (-1, 2, 3), InvalidPoint, NO_POINTS),
            ("way", -1, InvalidNumber, NO_WAYS),
            ("other", (1, 0, 1), InvalidPoint, NO_POINTS),
        ])


class CallsTest(unittest.TestCase):

    def test_by_name(self):
        self.assertEqual(place_of(height=(-1, 4), distance=(3, 2)), (6, -1, 4))
        self.assertEqual(distance_of(place=(6, -1, 4)), (3, 2))
        self.assertEqual(height_of(place=(6, -1, 4)), (-1, 4))
        self.assertEqual(grown(fraction=(2, 1), place=(6, -1, 4)), (6, -1, 2))
        self.assertEqual(sheared(fraction=(1, 2), place=(6, -1, 4)), (3, 1, 2))
        self.assertEqual(seen_from(other=(0, 5, 2), way=-1, point=(1, 1, 1)), (2, 3, 2))

    def test_equal_calls_return_equal_results(self):
        for place in AHEAD:
            self.assertEqual(distance_of(place), distance_of(place))
            self.assertEqual(height_of(place), height_of(place))
            self.assertEqual(grown(place, (3, 2)), grown(place, (3, 2)))
            self.assertEqual(sheared(place, (3, 2)), sheared(place, (3, 2)))
            self.assertEqual(seen_from((0, 0, 1), 1, place), place)

    def test_results_are_tuples_of_whole_numbers(self):
        results = [place_of((3, 2), (-1, 4)), distance_of((6, -1, 4)), height_of((6, -1, 4)), grown((6, -1, 4), (2, 1)),
                   sheared((6, -1, 4), (1, 2)), seen_from((1, 1, 1), 1, (3, 0, 1))]
        for result in results:
            self.assertIs(result.__class__, tuple)
            self.assertEqual({number.__class__ for number in result}, {int})


if __name__ == "__main__":
    unittest.main()
