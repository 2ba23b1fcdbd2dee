"""spoutlines.ranges (point 22 of the document)."""

import unittest

from spoutlines.errors import InvalidAsks, InvalidDistance, InvalidFraction, InvalidHead, NoJetFits
from spoutlines.fits import any_jet, how_many, weights
from spoutlines.numbers import compare, is_fraction, is_surd
from spoutlines.places import place_of
from spoutlines.ranges import bend_range, bends_with, height_range, slope_range, slope_range_at
from tests import oracle
from tests.oracle import BIT, Maker, number, number_below, pair
from tests.samples import ASKS_ROW, DISTANCE_ROW, HEAD_ROW, NO_FRACTIONS, check_arguments, error_of

WALL, GATE, EAVES = ("over", (2, 1, 1)), ("under", (2, 1, 1)), ("roof", (1, 1, 1), (3, 1, 1))
LOFTY = ("over", (4, 3, 1))
TWO = (2, 1)
RANGES = {
    "slopes": lambda head, asks, distance: slope_range(head, asks),
    "bends": lambda head, asks, distance: bend_range(head, asks),
    "heights": height_range,
    "slopes there": slope_range_at,
}


def just(fraction):
    return (fraction, 0, (0, 1))


def whole(one, other):
    return (just((one, 1)), just((other, 1)))


def at_most(name, distance, value):
    """The ask that what is meant is at most this number."""
    if name == "slopes":
        return ("dives", (0, 1), pair(value))
    if name == "slopes there":
        return ("dives", distance, pair(value))
    return ("quick", pair(value)) if name == "bends" else ("under", place_of(distance, pair(value)))


def at_least(name, distance, value):
    word, *rest = at_most(name, distance, value)
    return ({"dives": "climbs", "quick": "slow", "under": "over"}[word], *rest)


class SlopesTest(unittest.TestCase):

    def test_endless(self):
        self.assertEqual(slope_range(TWO, ()), (None, None))
        self.assertEqual(slope_range(TWO, (GATE, EAVES, ("low", (1, 1)), ("slow", (9, 1)))), (None, None))
        self.assertEqual(slope_range(TWO, (("dives", (0, 1), (1, 2)), GATE)), (None, just((1, 2))))
        self.assertEqual(slope_range(TWO, (("climbs", (0, 1), (1, 2)), GATE)), (just((1, 2)), None))

    def test_fractions_and_surds(self):
        self.assertEqual(slope_range(TWO, (WALL,)), whole(1, 3))
        self.assertEqual(slope_range((3, 1), (WALL,)), (((3, 1), -1, (5, 1)), ((3, 1), 1, (5, 1))))
        self.assertEqual(slope_range((3, 1), (WALL, ("dives", (0, 1), (3, 1)))), (((3, 1), -1, (5, 1)), just((3, 1))))
        self.assertEqual(slope_range((1, 1), (("quick", (1, 1)),)), (((0, 1), -1, (3, 1)), ((0, 1), 1, (3, 1))))

    def test_one_alone(self):
        self.assertEqual(slope_range((4, 1), (LOFTY,)), whole(2, 2))
        self.assertEqual(slope_range(TWO, (("dives", (0, 1), (1, 2)), ("climbs", (0, 1), (1, 2)))), (just((1, 2)),) * 2)


class BendsTest(unittest.TestCase):

    def test_endless_upward_alone(self):
        self.assertEqual(bend_range(TWO, ()), (just((1, 8)), None))
        self.assertEqual(bend_range(TWO, (("dives", (0, 1), (-1, 1)),)), (just((1, 4)), None))
        self.assertEqual(bend_range(TWO, (("slow", (5, 1)), GATE)), (just((5, 1)), None))

    def test_fractions_and_surds(self):
        self.assertEqual(bend_range(TWO, (WALL,)), (just((1, 4)), just((5, 4))))
        self.assertEqual(bend_range((3, 1), (WALL,)), (((5, 4), -1, (5, 4)), ((5, 4), 1, (5, 4))))
        self.assertEqual(bend_range(TWO, (WALL, ("quick", (1, 3)))), (just((1, 4)), just((1, 3))))

    def test_the_least_bend_where_the_bound_of_the_head_has_no_growth(self):
        self.assertEqual(bend_range(TWO, (("quick", (1, 1)),))[0], just((1, 8)))

    def test_the_least_bend_where_two_lower_bounds_meet(self):
        # From 2 + 2 * t * t on, and from t + 4 on.
        self.assertEqual(bend_range((1, 8), (("dives", (1, 2), (-4, 1)),))[0], ((17, 4), -1, (17, 16)))

    def test_bends_at_an_end_of_the_slopes(self):
        self.assertEqual(bend_range(TWO, (("climbs", (0, 1), (2, 1)),))[0], just((5, 8)))
        self.assertEqual(bend_range((9, 1), (("over", (1, 0, 1)), ("dives", (0, 1), (5, 4))))[1], just((5, 4)))

    def test_the_greatest_bend_on_a_bound_without_growth(self):
        self.assertEqual(bend_range((9, 1), (("over", (1, 0, 1)), ("quick", (3, 4))))[1], just((3, 4)))

    def test_one_alone(self):
        self.assertEqual(bend_range((4, 1), (LOFTY,)), (just((5, 16)),) * 2)
        self.assertEqual(bend_range(TWO, (("quick", (1, 2)), ("slow", (1, 2)))), (just((1, 2)),) * 2)


class HeightsTest(unittest.TestCase):

    def test_endless_downward_alone(self):
        # The parabola of safety.
        self.assertEqual(height_range(TWO, (), (2, 1)), (None, just((3, 2))))
        self.assertEqual(height_range(TWO, (), (4, 1)), (None, just((0, 1))))
        self.assertEqual(height_range(TWO, (GATE,), (2, 1)), (None, just((1, 1))))

    def test_fractions_and_surds(self):
        self.assertEqual(height_range(TWO, (WALL,), (1, 1)), (just((3, 4)), just((7, 4))))
        self.assertEqual(height_range(TWO, (WALL,), (4, 1)), whole(-8, 0))
        self.assertEqual(height_range((3, 1), (WALL,), (2, 1)), (just((1, 1)), just((8, 3))))
        # On the bound of the wall it is t / 2 + 1 / 4.
        low = height_range((3, 1), (WALL,), (1, 1))[0]
        self.assertEqual(low, ((7, 4), -1, (5, 4)))

    def test_the_greatest_height_where_two_lower_bounds_meet(self):
        # Under (1, 1) bends go from t - 1 on, with the head 5 / 4 from (1 + t * t) / 5 on: they meet at 2 and 3.
        asks = (("under", (1, 1, 1)),)
        self.assertEqual(height_range((5, 4), asks, (9, 8))[1], just((63, 64)))
        self.assertEqual(height_range((5, 4), asks, (1, 1))[1], just((1, 1)))
        self.assertEqual(height_range((5, 4), asks, (2, 1))[1], just((9, 20)))

    def test_the_least_height_where_two_upper_bounds_meet(self):
        # The jet through both places.
        asks = (("over", (1, 0, 1)), ("over", (2, -1, 1)))
        self.assertEqual(height_range((9, 1), asks, (3, 2))[0], just((-3, 8)))
        self.assertEqual(height_range((9, 1), asks, (1, 1))[0], just((0, 1)))

    def test_one_alone(self):
        self.assertEqual(height_range((4, 1), (LOFTY,), (4, 1)), whole(3, 3))
        self.assertEqual(height_range(TWO, (WALL, GATE), (2, 1)), whole(1, 1))

    def test_slopes_there(self):
        self.assertEqual(slope_range_at(TWO, (WALL,), (2, 1)), whole(-2, 0))
        self.assertEqual(slope_range_at(TWO, (), (2, 1))[0], None)
        # t - (1 + t * t) / 2 is greatest at 1.
        self.assertEqual(slope_range_at(TWO, (), (2, 1))[1], just((0, 1)))
        self.assertEqual(slope_range_at((4, 1), (LOFTY,), (1, 1)), (just((11, 8)),) * 2)


class MadeOnesTest(unittest.TestCase):

    def check_end(self, name, head, asks, distance, end, is_low):
        """Some good jet comes to the end, or as near as can be, and none beyond: papers show that."""
        ask_for = at_most if is_low else at_least
        way = 1 if is_low else -1
        if end is None:
            far = 10 ** 12 if name == "bends" else -way * 10 ** 12
            self.assertNotEqual(how_many(head, asks + (ask_for(name, distance, far),)), "none")
            return
        self.assertTrue(is_surd(end))
        if end[1] == 0:
            told = any_jet(head, asks + (ask_for(name, distance, number(end[0])),))
            self.assertTrue(oracle.is_good(told, head, asks))
        inner, outer = number_below(end) + way * BIT, number_below(end) - way * BIT
        inner_asks, outer_asks = [asks + (ask_for(name, distance, value),) for value in (inner, outer)]
        if how_many(head, inner_asks) == "none":
            # All that there is lies closer together than that.
            self.assertTrue(abs(number_below(self.other_end) - number_below(end)) < BIT)
        else:
            self.assertTrue(oracle.is_good(any_jet(head, inner_asks), head, inner_asks))
        self.assertTrue(oracle.settles(head, outer_asks, weights(head, outer_asks)), (name, head, asks, distance))

    def check_range(self, name, head, asks, distance):
        told = RANGES[name](head, asks, distance)
        self.assertIs(told.__class__, tuple)
        low, high = told
        upper = any([ask[0] in ("over", "quick") or ask[0] == "climbs" and ask[1] != (0, 1) for ask in asks])
        sides = [upper or (word, (0, 1)) in [ask[:2] for ask in asks] for word in ("climbs", "dives")]
        right = {"slopes": sides, "bends": [True, upper], "heights": [upper, True], "slopes there": [upper, True]}
        self.assertEqual([low is not None, high is not None], right[name], (name, head, asks))
        if low is not None and high is not None:
            self.assertLessEqual(compare(low, high), 0)
        for end, self.other_end, is_low in ((low, high, True), (high, low, False)):
            self.check_end(name, head, asks, distance, end, is_low)

    def check_all(self, maker, many):
        checked = 0
        while checked < many:
            head, asks = maker.task()
            distance = maker.above_zero()
            if any_jet(head, asks) is None:
                for name in RANGES:
                    self.assertIs(error_of(RANGES[name], head, asks, distance).__class__, NoJetFits)
                continue
            checked += 1
            for name in RANGES:
                self.check_range(name, head, asks[:7], distance)

    def test_small_numbers(self):
        self.check_all(Maker(31), 150)

    def test_great_numbers(self):
        self.check_all(Maker(32, 10 ** 9), 30)

    def test_bends_with(self):
        maker = Maker(33)
        found = 0
        for _ in range(600):
            head, asks = maker.task()
            slope = maker.fraction()
            told = bends_with(head, asks, slope)
            if told is None:
                both = asks[:6] + (("dives", (0, 1), slope), ("climbs", (0, 1), slope))
                self.assertTrue(oracle.settles(head, both, weights(head, both)))
                continue
            found += 1
            least, most = told
            self.assertTrue(is_fraction(least) and (most is None or is_fraction(most)))
            self.assertTrue(oracle.is_good((slope, least), head, asks))
            self.assertFalse(oracle.is_good((slope, pair(number(least) - BIT)), head, asks))
            great = (slope, pair(number(most or least) + BIT))
            self.assertEqual(oracle.is_good(great, head, asks), most is None)
            self.assertTrue(oracle.is_good((slope, most or (10 ** 12, 1)), head, asks))
        self.assertGreater(found, 100)


class BendsWithTest(unittest.TestCase):

    def test_bends_with(self):
        self.assertEqual(bends_with(TWO, (WALL,), (1, 1)), ((1, 4), (1, 4)))
        self.assertEqual(bends_with(TWO, (WALL,), (2, 1)), ((5, 8), (3, 4)))
        self.assertEqual(bends_with(TWO, (), (-1, 1)), ((1, 4), None))
        self.assertEqual(bends_with(TWO, (EAVES,), (3, 1)), ((2, 1), None))

    def test_none(self):
        self.assertIs(bends_with(TWO, (WALL,), (10 ** 9 - 1, 10 ** 9)), None)
        self.assertIs(bends_with((1, 1), (WALL,), (2, 1)), None)
        self.assertIs(bends_with((1, 1), (("dives", (0, 1), (1, 2)),), (2, 3)), None)
        self.assertIs(bends_with((1, 1), (("climbs", (0, 1), (1, 2)),), (1, 3)), None)
        self.assertEqual(bends_with((1, 1), (("climbs", (0, 1), (1, 2)),), (1, 2)), ((5, 16), None))


class WrongArgumentsTest(unittest.TestCase):

    def test_wrong_arguments(self):
        check_arguments(self, slope_range, [HEAD_ROW, ASKS_ROW])
        check_arguments(self, bend_range, [HEAD_ROW, ASKS_ROW])
        for function in (height_range, slope_range_at):
            check_arguments(self, function, [HEAD_ROW, ASKS_ROW, DISTANCE_ROW])
        check_arguments(self, bends_with, [HEAD_ROW, ASKS_ROW, ("slope", (1, 1), InvalidFraction, NO_FRACTIONS)])

    def test_no_jet_fits_is_told_last(self):
        for function in (slope_range, bend_range):
            for error in (error_of(function, (1, 1), (WALL,)), error_of(function, asks=(WALL,), head=(1, 1))):
                self.assertIs(error.__class__, NoJetFits)
                self.assertEqual(vars(error), {})
        for function in (height_range, slope_range_at):
            self.assertIs(error_of(function, (1, 1), (WALL,), (1, 1)).__class__, NoJetFits)
            self.assertIs(error_of(function, (1, 1), (WALL,), (0, 1)).__class__, InvalidDistance)
            self.assertIs(error_of(function, (1, 1), (WALL, None), (0, 1)).__class__, InvalidAsks)
            self.assertIs(error_of(function, (0, 1), (WALL,), (1, 1)).__class__, InvalidHead)
        self.assertIs(bends_with((1, 1), (WALL,), (1, 1)), None)

    def test_what_was_returned_may_be_passed(self):
        great = 10 ** 399
        asks = (("over", (great, great + 1, 7)), ("under", (great + 3, 3 * great - 1, 11)))
        for name in RANGES:
            told = RANGES[name]((10 ** 400, 3), asks, (great + 1, 2))
            self.assertTrue(all(is_surd(end) for end in told))
            self.assertLessEqual(compare(*told), 0)
        told = bends_with((10 ** 400, 3), asks, any_jet((10 ** 400, 3), asks)[0])
        self.assertLessEqual(number(told[0]), number(told[1]))
        self.assertEqual(len(bend_range((10 ** 400, 3), asks + (("quick", told[0]),))), 2)


if __name__ == "__main__":
    unittest.main()
