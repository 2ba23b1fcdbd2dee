"""spoutlines.guards (points 34 and 35 of the document)."""

import unittest
from fractions import Fraction
from itertools import combinations

from spoutlines.asks import grown_ask
from spoutlines.errors import InvalidDistance, InvalidGuards, InvalidPlace, NotNearer
from spoutlines.fits import any_jet
from spoutlines.guards import fewest_guards, greatest_curtain, is_guard, is_guarded, least_post
from spoutlines.numbers import compare, is_surd, surd_times
from spoutlines.papers import paper_against
from spoutlines.places import grown, place_of
from spoutlines.regions import bounds_with, slopes_left
from spoutlines.wetness import is_wet, slopes_to
from tests import oracle
from tests.oracle import BIT, Maker, distance_and_height, number, number_below, pair
from tests.samples import (
    ASKS_ROW, DISTANCE_ROW, GUARDS, GUARDS_ROW, HEAD_ROW, NO_GUARDS, PLACE_ROW, WRONG_GUARDS, check_arguments, error_of,
)

ONE, TWO = (1, 1), (2, 1)
HALF, THREE_QUARTERS = Fraction(1, 2), Fraction(3, 4)
# With the head 1 jets come through it with slopes t from 2 - root(3) up to 2 + root(3), and t / 4 and 3 * t / 16 high
# at 1 / 2 and 3 / 4.
RIM = (1, 0, 1)
WALL = ("over", (2, 1, 1))


def place(distance, height):
    return place_of(pair(distance), pair(height))


def post(distance, height):
    return ("post", place(distance, height))


def curtain(distance, height):
    return ("curtain", place(distance, height))


def from_slope(slope):
    """A post that lets slopes from this one on come to the rim."""
    return post(HALF, Fraction(slope) / 4)


def to_slope(slope):
    """A curtain that lets slopes up to this one come to the rim."""
    return curtain(THREE_QUARTERS, Fraction(slope) * 3 / 16)


class GuardTest(unittest.TestCase):

    def test_is_guard(self):
        for value in GUARDS:
            self.assertIs(is_guard(value), True)
        for value in NO_GUARDS:
            self.assertIs(is_guard(value), False)


class GuardedTest(unittest.TestCase):

    def check(self, head, asks, at, guards, fewest):
        self.assertIs(is_guarded(head, asks, at, guards), fewest is not None, guards)
        self.assertEqual(fewest_guards(head, asks, at, guards), fewest, guards)

    def test_one_alone(self):
        self.check(ONE, (), RIM, (from_slope(4),), (0,))
        self.check(ONE, (), RIM, (from_slope(3),), None)
        self.check(ONE, (), RIM, (to_slope(Fraction(1, 4)),), (0,))
        self.check(ONE, (), RIM, (to_slope(Fraction(1, 3)),), None)
        self.check(ONE, (), RIM, (from_slope(3), to_slope(Fraction(1, 4)), from_slope(4)), (1,))
        self.check(ONE, (), RIM, (from_slope(-9), to_slope(99)), None)

    def test_two_by_two(self):
        self.check(ONE, (), RIM, (from_slope(3), to_slope(2)), (0, 1))
        self.check(ONE, (), RIM, (to_slope(2), from_slope(3)), (0, 1))
        self.check(ONE, (), RIM, (from_slope(2), to_slope(3)), None)
        self.check(ONE, (), RIM, (from_slope(1), to_slope(3), from_slope(2), to_slope(1)), (2, 3))

    def test_by_touching_a_jet_passes(self):
        # One jet, with the slope 2, passes both.
        self.check(ONE, (), RIM, (from_slope(2), to_slope(2)), None)
        self.check(ONE, (), RIM, (from_slope(2 + BIT), to_slope(2)), (0, 1))
        self.check(ONE, (), RIM, (from_slope(2), to_slope(2 - BIT)), (0, 1))

    def test_at_the_ends_of_the_slopes(self):
        root = Fraction(oracle.isqrt(3 * 10 ** 60), 10 ** 30)
        above = root + Fraction(1, 10 ** 30)
        self.check(ONE, (), RIM, (from_slope(2 + root),), None)
        self.check(ONE, (), RIM, (from_slope(2 + above),), (0,))
        self.check(ONE, (), RIM, (to_slope(2 - root),), None)
        self.check(ONE, (), RIM, (to_slope(2 - above),), (0,))
        # One good jet alone comes there, with the slope 2.
        top = (4, 3, 4)
        self.check(ONE, (), top, (post(HALF, Fraction(11, 16)),), None)
        self.check(ONE, (), top, (post(HALF, Fraction(11, 16) + BIT),), (0,))
        self.check(ONE, (), top, (curtain(HALF, Fraction(11, 16)),), None)
        self.check(ONE, (), top, (curtain(HALF, Fraction(11, 16) - BIT),), (0,))

    def test_several_least_tuples(self):
        low, high, lower, higher = from_slope(2), to_slope(1), from_slope(3), to_slope(Fraction(1, 2))
        self.check(ONE, (), RIM, (low, high, lower, higher), (0, 1))
        self.check(ONE, (), RIM, (low, lower, high, higher), (0, 2))
        self.check(ONE, (), RIM, (from_slope(0), to_slope(9), low, high, lower, higher), (2, 3))
        self.check(ONE, (), RIM, (from_slope(Fraction(3, 4)), low, high, higher), (0, 3))
        self.check(ONE, (), RIM, (low, high, from_slope(4), from_slope(5)), (2,))
        self.check(ONE, (), RIM, (from_slope(4),) * 8, (0,))
        self.check(ONE, (), RIM, (low,) * 7 + (high,), (0, 7))
        self.check(ONE, (), RIM, (low,) * 8, None)

    def test_dry_places(self):
        for asks, at in (((), (1, 1, 1)), ((WALL,), (1, 0, 1)), ((("under", RIM), ("over", (1, 1, 2))), (2, 0, 1))):
            self.assertIs(is_wet(ONE, asks, at), False)
            for guards in ((from_slope(-9),), (to_slope(99), from_slope(9)), (from_slope(0),) * 8):
                self.check(ONE, asks, at, guards, ())

    def test_with_asks(self):
        # Slopes from 2 on.
        steep = (("over", (1, 1, 2)),)
        self.check(ONE, steep, RIM, (to_slope(2),), None)
        self.check(ONE, steep, RIM, (to_slope(2 - BIT),), (0,))
        self.check(ONE, steep * 8, RIM, (to_slope(2 - BIT), from_slope(2)), (0,))
        # Slopes up to 1.
        flat = (("dives", (0, 1), (1, 1)),)
        self.check(ONE, flat, RIM, (from_slope(1),), None)
        self.check(ONE, flat, RIM, (from_slope(1 + BIT),), (0,))

    def test_made_ones(self):
        maker = Maker(81)
        told = {}
        for _ in range(250):
            head, asks = maker.task()
            jet = any_jet(head, asks)
            far = number(maker.above_zero())
            at = place(far, number(maker.fraction()))
            if jet and maker.random.random() < 0.8:
                at = maker.place_on(jet, far)
            guards = made_guards(maker, jet, far)
            fewest = fewest_guards(head, asks, at, guards)
            self.assertEqual(fewest, self.first_least(head, asks, at, guards), (head, asks, at, guards))
            self.assertIs(is_guarded(head, asks, at, guards), fewest is not None)
            length = None if fewest is None else len(fewest)
            told[length] = told.get(length, 0) + 1
        self.assertGreater(min(told.get(length, 0) for length in (None, 0, 1)), 20)
        self.assertGreater(told.get(2, 0), 5)

    def first_least(self, head, asks, at, guards):
        """All tuples of indexes one after another, by their lengths; that they guard is shown by papers."""
        for length in range(len(guards) + 1):
            for indexes in combinations(range(len(guards)), length):
                passed = tuple([("over" if guards[index][0] == "post" else "under", guards[index][1])
                                for index in indexes])
                more = asks + passed + (("over", at), ("under", at))
                paper = paper_against(head, more)
                if paper is not None:
                    self.assertTrue(oracle.settles(head, more, paper))
                    return indexes
        return None

    def test_grown(self):
        maker = Maker(82)
        for _ in range(80):
            head, asks = maker.task()
            jet = any_jet(head, asks)
            far = number(maker.above_zero())
            at = maker.place_on(jet, far) if jet else maker.place()
            guards = made_guards(maker, jet, distance_and_height(at)[0])
            factor = maker.above_zero()
            more = tuple([grown_ask(ask, factor) for ask in asks])
            tall = tuple([(word, grown(stand, factor)) for word, stand in guards])
            head_grown = pair(number(head) * number(factor))
            near = pair(distance_and_height(at)[0] / 3)
            near_grown = pair(number(near) * number(factor))
            for function in (is_guarded, fewest_guards):
                self.assertEqual(
                    function(head_grown, more, grown(at, factor), tall), function(head, asks, at, guards))
            for function in (least_post, greatest_curtain):
                told = function(head, asks, at, near)
                told_grown = function(head_grown, more, grown(at, factor), near_grown)
                self.assertEqual(told_grown, None if told is None else surd_times(told, factor))

    def test_wrong_arguments(self):
        for function in (is_guarded, fewest_guards):
            check_arguments(self, function, [HEAD_ROW, ASKS_ROW, PLACE_ROW, GUARDS_ROW])

    def test_wrong_guards(self):
        for wrong, index in WRONG_GUARDS:
            error = error_of(is_guarded, ONE, (), (9, 0, 1), wrong)
            self.assertIs(error.__class__, InvalidGuards)
            self.assertEqual(error.index, index)

    def test_not_nearer_is_told_last(self):
        near, just_there, farther = post(HALF, 1), curtain(1, 5), post(2, 9)
        for function in (is_guarded, fewest_guards):
            for asks in ((), (WALL,)):
                for guards, given in (((just_there,), just_there[1]), ((near, farther), farther[1]),
                                      ((near, just_there, farther), just_there[1]), ((farther,) * 8, farther[1])):
                    for error in (error_of(function, ONE, asks, RIM, guards),
                                  error_of(function, guards=guards, place=RIM, asks=asks, head=ONE)):
                        self.assertIs(error.__class__, NotNearer)
                        self.assertIs(error.given, given)
            self.assertIs(error_of(function, ONE, (), RIM, (farther, ("post", RIM, 5))).__class__, InvalidGuards)
            self.assertIs(error_of(function, ONE, (), RIM, (farther,) * 9).__class__, InvalidGuards)
            self.assertIs(error_of(function, ONE, (), (0, 0, 1), (farther,)).__class__, InvalidPlace)


def made_guards(maker, jet, far):
    """Guards nearer than a distance, some of them just at the jet, or a bit aside."""
    found = []
    for _ in range(maker.random.randint(1, 4)):
        near = far * Fraction(maker.random.randint(1, 9), 10)
        height = number(maker.fraction()) if jet is None else oracle.height(jet, near)
        aside = maker.random.choice([0, 0, BIT, -BIT, HALF, -HALF, 3, -3])
        found.append((maker.random.choice(("post", "curtain")), place(near, height + aside)))
    return tuple(found)


class LeastTest(unittest.TestCase):

    def check(self, head, asks, at, distance, least, greatest):
        told = (least_post(head, asks, at, distance), greatest_curtain(head, asks, at, distance))
        self.assertEqual(told, (least, greatest))
        self.check_limits(head, asks, at, distance)

    def check_limits(self, head, asks, at, distance):
        """One post just above, one just at, or just below the surd, and likewise curtains."""
        least, greatest = least_post(head, asks, at, distance), greatest_curtain(head, asks, at, distance)
        self.assertTrue(is_surd(least) and is_surd(greatest))
        self.assertLessEqual(compare(greatest, least), 0)
        far = number(distance)
        top, bottom = number_below(least), number_below(greatest)
        above = top + Fraction(2, oracle.SCALE)
        self.assertIs(is_guarded(head, asks, at, (post(far, above),)), True)
        self.assertIs(is_guarded(head, asks, at, (post(far, top),)), False)
        self.assertIs(is_guarded(head, asks, at, (curtain(far, bottom - Fraction(2, oracle.SCALE)),)), True)
        if greatest[1] == 0:
            self.assertIs(is_guarded(head, asks, at, (curtain(far, bottom),)), False)
        self.assertIs(is_guarded(head, asks, at, (curtain(far, bottom + Fraction(2, oracle.SCALE)),)), False)

    def test_surds(self):
        self.check(ONE, (), RIM, (1, 2), ((1, 2), 1, (3, 16)), ((1, 2), -1, (3, 16)))
        self.check(ONE, (), RIM, (3, 4), ((3, 8), 1, (27, 256)), ((3, 8), -1, (27, 256)))

    def test_fractions(self):
        self.check(ONE, (), (4, 3, 4), (1, 2), ((11, 16), 0, (0, 1)), ((11, 16), 0, (0, 1)))
        # Over the wall with the head 2, slopes from 1 up to 3 come to it.
        self.check(TWO, (WALL,), (2, 1, 1), (1, 1), ((7, 4), 0, (0, 1)), ((3, 4), 0, (0, 1)))

    def test_one_of_each(self):
        self.check(ONE, (("over", (1, 1, 2)),), RIM, (1, 2), ((1, 2), 1, (3, 16)), ((1, 2), 0, (0, 1)))
        self.check(ONE, (("dives", (0, 1), (1, 1)),), RIM, (1, 2), ((1, 4), 0, (0, 1)), ((1, 2), -1, (3, 16)))

    def test_below_the_spout(self):
        self.check(ONE, (("dives", (0, 1), (-1, 1)),), (1, -3, 1), (1, 2), ((-1, 1), 0, (0, 1)),
            greatest_curtain(ONE, (("dives", (0, 1), (-1, 1)),), (1, -3, 1), (1, 2)))

    def test_dry_places(self):
        for function in (least_post, greatest_curtain):
            self.assertIs(function(ONE, (), (1, 1, 1), (1, 2)), None)
            self.assertIs(function(ONE, (WALL,), (1, 0, 1), (1, 2)), None)

    def test_made_ones(self):
        maker = Maker(83)
        wet = 0
        for _ in range(120):
            head, asks = maker.task()
            jet = any_jet(head, asks)
            at = maker.place_on(jet, number(maker.above_zero())) if jet else maker.place()
            distance = pair(distance_and_height(at)[0] * Fraction(maker.random.randint(1, 9), 10))
            asks = asks[:7]
            if slopes_to(head, asks, at) is None:
                self.assertIs(least_post(head, asks, at, distance), None)
                self.assertIs(greatest_curtain(head, asks, at, distance), None)
            else:
                wet += 1
                self.check_limits(head, asks, at, distance)
                self.check_heights(head, asks, at, distance)
        self.assertGreater(wet, 40)

    def check_heights(self, head, asks, at, distance):
        """The heights of the jets through the place with the least and the greatest slope."""
        far, height = distance_and_height(at)
        near = number(distance)
        slopes = slopes_left(bounds_with(head, asks + (("over", at), ("under", at))))
        for slope, function in zip(slopes, (greatest_curtain, least_post)):
            told, steep = number_below(function(head, asks, at, distance)), number_below(slope)
            bend = (steep * far - height) / (far * far)
            self.assertLess(abs(steep * near - bend * near * near - told), BIT)

    def test_wrong_arguments(self):
        for function in (least_post, greatest_curtain):
            check_arguments(self, function, [HEAD_ROW, ASKS_ROW, PLACE_ROW, DISTANCE_ROW])
            self.assertIs(error_of(function, ONE, (), RIM, (0, 1)).__class__, InvalidDistance)

    def test_not_nearer_is_told_last(self):
        for function in (least_post, greatest_curtain):
            for asks in ((), (WALL,)):
                for distance in ((1, 1), pair(1 + BIT), (9, 1)):
                    for error in (error_of(function, ONE, asks, RIM, distance),
                                  error_of(function, distance=distance, place=RIM, asks=asks, head=ONE)):
                        self.assertIs(error.__class__, NotNearer)
                        self.assertIs(error.given, distance)
            self.assertIs(error_of(function, ONE, (), RIM, pair(1 - BIT)), None)

    def test_very_great_numbers(self):
        great = 10 ** 399
        half, square = pair(Fraction(great, 2)), pair(Fraction(3 * great * great, 16))
        self.assertEqual(least_post((great, 1), (), (great, 0, 1), half), (half, 1, square))
        self.assertEqual(greatest_curtain((great, 1), (), (great, 0, 1), half), (half, -1, square))


if __name__ == "__main__":
    unittest.main()
