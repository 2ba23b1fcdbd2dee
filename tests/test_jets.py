"""spoutlines.jets (points 9 to 11 and 17 of the document)."""

import unittest
from fractions import Fraction

from spoutlines.errors import InvalidDistance, InvalidFraction, InvalidPlace, NotFarther
from spoutlines.jets import (
    distances_at, grown_jet, head_left, head_of, height_at, is_jet, jet_through, jet_with, landing, sheared_jet,
    slope_at, time_square, top_of, word_at,
)
from spoutlines.numbers import compare, is_fraction, is_surd
from spoutlines.places import distance_of, grown, height_of, is_place, place_of, sheared
from tests import oracle
from tests.oracle import BIT, Maker, number, number_below, pair
from tests.samples import (
    BELOW_ZERO, FRACTIONS, JET_ROW, JETS, NO_FRACTIONS, NO_JETS, NO_PLACES, NOT_ABOVE_ZERO, PLACE_ROW, check_arguments,
    error_of,
)

ARCH = ((1, 1), (1, 4))
FLAT = ((0, 1), (1, 2))
DOWN = ((-1, 1), (1, 4))
HERE_ROW = ("distance", (1, 2), InvalidDistance, NO_FRACTIONS + BELOW_ZERO)


def whole(number):
    return ((number, 1), 0, (0, 1))


class IsJetTest(unittest.TestCase):

    def test_jets(self):
        for value in JETS:
            self.assertIs(is_jet(value), True)
            self.assertIs(is_jet(value=value), True)

    def test_anything_else(self):
        for value in NO_JETS:
            self.assertIs(is_jet(value), False)


class AtADistanceTest(unittest.TestCase):

    def test_a_jet_that_rises(self):
        distances = [(0, 1), (1, 1), (2, 1), (3, 1), (4, 1), (6, 1)]
        self.assertEqual([height_at(ARCH, d) for d in distances], [(0, 1), (3, 4), (1, 1), (3, 4), (0, 1), (-3, 1)])
        self.assertEqual([slope_at(ARCH, d) for d in distances], [(1, 1), (1, 2), (0, 1), (-1, 2), (-1, 1), (-2, 1)])
        words = ["rises", "rises", "top", "falls", "falls", "falls"]
        self.assertEqual([word_at(ARCH, d) for d in distances], words)
        self.assertEqual([time_square(ARCH, d) for d in distances], [(0, 1), (1, 4), (1, 1), (9, 4), (4, 1), (9, 1)])
        self.assertEqual([head_left(ARCH, d) for d in distances], [(2, 1), (5, 4), (1, 1), (5, 4), (2, 1), (5, 1)])
        self.assertEqual((head_of(ARCH), top_of(ARCH)), ((2, 1), (2, 1, 1)))

    def test_a_jet_that_leaves_level(self):
        self.assertEqual([word_at(FLAT, (0, 1)), word_at(FLAT, (1, 9))], ["top", "falls"])
        self.assertEqual([height_at(FLAT, (3, 1)), slope_at(FLAT, (3, 1))], [(-9, 2), (-3, 1)])
        self.assertEqual([head_of(FLAT), head_left(FLAT, (3, 1)), head_left(FLAT, (0, 1))], [(1, 2), (5, 1), (1, 2)])
        self.assertIs(top_of(FLAT), None)

    def test_a_jet_that_falls_from_the_spout_on(self):
        self.assertEqual([word_at(DOWN, (0, 1)), word_at(DOWN, (9, 1))], ["falls", "falls"])
        self.assertEqual([height_at(DOWN, (2, 1)), slope_at(DOWN, (2, 1)), head_of(DOWN)], [(-3, 1), (-2, 1), (2, 1)])
        self.assertIs(top_of(DOWN), None)

    def test_made_ones(self):
        maker = Maker(1)
        for _ in range(300):
            jet, distance = maker.jet(), maker.random.choice([(0, 1), maker.above_zero()])
            there = oracle.slope(jet, number(distance))
            self.assertEqual(height_at(jet, distance), pair(oracle.height(jet, number(distance))))
            self.assertEqual(slope_at(jet, distance), pair(there))
            self.assertEqual(time_square(jet, distance), pair(number(distance) ** 2 * number(jet[1])))
            self.assertEqual(head_of(jet), pair(oracle.head(jet)))
            # Torricelli.
            self.assertEqual(head_left(jet, distance), pair((1 + there * there) / (4 * number(jet[1]))))
            self.assertEqual(word_at(jet, distance), "rises" if there > 0 else "falls" if there < 0 else "top")
            if jet[0][0] > 0:
                top = top_of(jet)
                self.assertTrue(is_place(top))
                self.assertEqual(word_at(jet, distance_of(top)), "top")
                self.assertEqual(height_at(jet, distance_of(top)), height_of(top))
            else:
                self.assertIs(top_of(jet), None)

    def test_very_great_numbers(self):
        for jet in JETS:
            for distance in [one for one in FRACTIONS if one[0] >= 0]:
                told = [height_at(jet, distance), slope_at(jet, distance), time_square(jet, distance),
                        head_left(jet, distance)]
                self.assertTrue(all(is_fraction(one) for one in told))
                self.assertEqual(told[0], pair(oracle.height(jet, number(distance))))
                # What was returned may be passed on.
                self.assertTrue(is_fraction(height_at(jet, told[2])))

    def test_wrong_arguments(self):
        for function in (height_at, slope_at, time_square, head_left, word_at):
            check_arguments(self, function, [JET_ROW, HERE_ROW])
        for function in (head_of, top_of):
            check_arguments(self, function, [JET_ROW])


class AtAHeightTest(unittest.TestCase):

    def test_none_one_and_two_distances(self):
        self.assertEqual(distances_at(ARCH, (2, 1)), ())
        self.assertEqual(distances_at(ARCH, (1, 1)), (whole(2),))
        self.assertEqual(distances_at(ARCH, (3, 4)), (whole(1), whole(3)))
        self.assertEqual(distances_at(ARCH, (1, 2)), (((2, 1), -1, (2, 1)), ((2, 1), 1, (2, 1))))

    def test_the_distance_zero_is_left_out(self):
        self.assertEqual(distances_at(ARCH, (0, 1)), (whole(4),))
        self.assertEqual(distances_at(FLAT, (0, 1)), ())
        self.assertEqual(distances_at(DOWN, (0, 1)), ())

    def test_below_the_spout_it_is_one_distance(self):
        self.assertEqual(distances_at(ARCH, (-5, 1)), (((2, 1), 1, (24, 1)),))
        self.assertEqual(distances_at(FLAT, (-2, 1)), (whole(2),))
        self.assertEqual(distances_at(DOWN, (-3, 1)), (whole(2),))

    def test_above_the_spout_what_does_not_rise_has_none(self):
        for jet in (FLAT, DOWN):
            self.assertEqual(distances_at(jet, (1, 10 ** 9)), ())
            self.assertIs(landing(jet, (1, 10 ** 9)), None)

    def test_landing(self):
        self.assertEqual(landing(ARCH, (3, 4)), whole(3))
        self.assertEqual(landing(ARCH, (1, 1)), whole(2))
        self.assertEqual(landing(ARCH, (1, 2)), ((2, 1), 1, (2, 1)))
        self.assertIs(landing(ARCH, (9, 8)), None)
        self.assertEqual(landing(DOWN, (-3, 1)), whole(2))
        self.assertIs(landing(DOWN, (0, 1)), None)

    def test_made_ones(self):
        maker = Maker(2)
        for _ in range(300):
            jet, at = maker.jet(), maker.fraction()
            if maker.random.random() < 0.3:
                at = pair(oracle.height(jet, number(maker.above_zero())))
            told = distances_at(jet, at)
            slope, bend, level = number(jet[0]), number(jet[1]), number(at)
            inside = slope * slope - 4 * bend * level
            self.assertIs(told.__class__, tuple)
            self.assertEqual(len(told), (inside >= 0) * ((slope > 0 and level > 0) + (slope > 0 or level < 0))
                             - (inside == 0 and slope > 0))
            for surd in told:
                self.assertTrue(is_surd(surd) and number_below(surd) > 0)
                self.assertLess(abs(oracle.height(jet, number_below(surd)) - level), BIT)
                if surd[1] == 0:
                    self.assertEqual(height_at(jet, surd[0]), at)
            self.assertTrue(all(compare(one, other) < 0 for one, other in zip(told, told[1:])))
            self.assertEqual(landing(jet, at), told[-1] if told else None)

    def test_wrong_arguments(self):
        for function in (distances_at, landing):
            check_arguments(self, function, [JET_ROW, ("height", (-1, 2), InvalidFraction, NO_FRACTIONS)])


class ThroughPlacesTest(unittest.TestCase):

    def test_with_a_slope(self):
        self.assertEqual(jet_with((1, 1), (4, 0, 1)), ARCH)
        self.assertEqual(jet_with((1, 1), (6, -3, 1)), ARCH)
        self.assertEqual(jet_with((-1, 1), (2, -3, 1)), DOWN)

    def test_with_a_slope_for_which_no_bend_is_above_zero(self):
        self.assertIs(jet_with((1, 2), (2, 1, 1)), None)
        self.assertIs(jet_with((1, 3), (2, 1, 1)), None)
        self.assertIs(jet_with((-1, 1), (1, 0, 1)), None)
        self.assertEqual(jet_with((10 ** 9 + 1, 2 * 10 ** 9), (2, 1, 1)),
            ((10 ** 9 + 1, 2 * 10 ** 9), (1, 4 * 10 ** 9)))

    def test_through_two_places(self):
        self.assertEqual(jet_through((1, 3, 4), (3, 3, 4)), ((4, 1), (4, 1)))
        self.assertEqual(jet_through((4, 3, 4), (6, -3, 1)), ARCH)
        self.assertEqual(jet_through((2, -3, 1), (4, -8, 1)), DOWN)

    def test_two_places_through_which_there_is_none(self):
        # In one line with the spout, and above this line.
        self.assertIs(jet_through((1, 1, 1), (2, 2, 1)), None)
        self.assertIs(jet_through((1, 1, 1), (2, 3, 1)), None)
        self.assertIs(jet_through((1, -1, 1), (2, -1, 1)), None)

    def test_made_ones(self):
        maker = Maker(3)
        found = 0
        for _ in range(300):
            jet, (place, other) = maker.jet(), maker.places()
            near, far = distance_of(place), distance_of(other)
            on_it = [place_of(distance, height_at(jet, distance)) for distance in (near, far)]
            self.assertEqual(jet_through(on_it[0], on_it[1]), jet)
            self.assertEqual(jet_with(jet[0], on_it[0]), jet)
            told = jet_through(place, other)
            # There is one just where the nearer place is above the straight way from the spout to the farther one.
            rises = [number(height_of(one)) / number(distance_of(one)) for one in (place, other)]
            self.assertEqual(told is not None, rises[0] > rises[1])
            if told is not None:
                found += 1
                self.assertTrue(is_jet(told))
                self.assertEqual((height_at(told, near), height_at(told, far)), (height_of(place), height_of(other)))
        self.assertGreater(found, 50)

    def test_not_farther_is_told_last(self):
        for other in ((2, 1, 1), (2, 5, 1), (1, 0, 1), (1, 10 ** 400, 1), (3, 1, 2)):
            for error in (error_of(jet_through, (2, 1, 1), other), error_of(jet_through, other=other, place=(2, 1, 1))):
                self.assertIs(error.__class__, NotFarther)
                self.assertIs(error.given, other)
        self.assertIs(error_of(jet_through, (2, 1, 1), (1, 1, 0)).__class__, InvalidPlace)

    def test_wrong_arguments(self):
        check_arguments(self, jet_with, [("slope", (1, 1), InvalidFraction, NO_FRACTIONS), PLACE_ROW])
        for other in ((3, 0, 1), (1, 0, 1)):
            check_arguments(self, jet_through, [PLACE_ROW, ("other", other, InvalidPlace, NO_PLACES)])


class GrownAndShearedTest(unittest.TestCase):

    def test_grown(self):
        self.assertEqual(grown_jet(ARCH, (2, 1)), ((1, 1), (1, 8)))
        self.assertEqual(grown_jet(ARCH, (1, 3)), ((1, 1), (3, 4)))

    def test_sheared(self):
        self.assertEqual(sheared_jet(ARCH, (1, 3)), ((4, 3), (1, 4)))
        self.assertEqual(sheared_jet(ARCH, (-2, 1)), DOWN)
        self.assertEqual(sheared_jet(ARCH, (0, 1)), ARCH)

    def test_they_go_along_with_places(self):
        maker = Maker(4)
        for _ in range(200):
            jet, distance, fraction = maker.jet(), maker.above_zero(), maker.fraction()
            place = place_of(distance, height_at(jet, distance))
            moved = sheared(place, fraction)
            self.assertEqual(height_at(sheared_jet(jet, fraction), distance_of(moved)), height_of(moved))
            if fraction[0] > 0:
                moved, told = grown(place, fraction), grown_jet(jet, fraction)
                self.assertTrue(is_jet(told))
                self.assertEqual(height_at(told, distance_of(moved)), height_of(moved))
                self.assertEqual(head_of(told), pair(oracle.head(jet) * Fraction(*fraction)))

    def test_wrong_arguments(self):
        check_arguments(self, grown_jet, [
            JET_ROW, ("fraction", (1, 2), InvalidFraction, NO_FRACTIONS + NOT_ABOVE_ZERO)])
        check_arguments(self, sheared_jet, [JET_ROW, ("fraction", (-1, 2), InvalidFraction, NO_FRACTIONS)])


if __name__ == "__main__":
    unittest.main()
