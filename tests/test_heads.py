"""spoutlines.heads (points 25 to 27 of the document)."""

import unittest
from fractions import Fraction

from spoutlines.errors import InvalidAsk, InvalidAsks, InvalidFraction, NoJetFits
from spoutlines.fits import any_jet, how_many, weights
from spoutlines.heads import farthest, head_through, least_head, reach, sure_up_to
from spoutlines.numbers import compare, is_fraction, is_surd
from spoutlines.places import distance_of, height_of, place_of
from spoutlines.sayings import status_of
from tests import oracle
from tests.oracle import BIT, Maker, number, number_below, pair
from tests.samples import (
    ASKS_ROW, DISTANCE_ROW, HEAD_ROW, NO_ASKS, NO_FRACTIONS, PLACE_ROW, check_arguments, error_of,
)

WALL, GATE, EAVES = ("over", (2, 1, 1)), ("under", (2, 1, 1)), ("roof", (1, 1, 1), (3, 1, 1))
LOFTY, LEVEL = ("over", (4, 3, 1)), ("dives", (2, 1), (0, 1))
OPPOSABLE = ("over", "under", "dives", "climbs", "quick", "slow")
DOWN_TO_ZERO = (((0, 1), 0, (0, 1)), False)


def just(fraction):
    return (fraction, 0, (0, 1))


class LeastHeadTest(unittest.TestCase):

    def test_no_asks(self):
        self.assertEqual(least_head(()), DOWN_TO_ZERO)

    def test_no_upper_ask(self):
        self.assertEqual(least_head((GATE, EAVES, ("low", (1, 9)), ("slow", (9, 1)), LEVEL)), DOWN_TO_ZERO)
        self.assertEqual(least_head((("dives", (0, 1), (1, 2)), ("climbs", (0, 1), (1, 2)))), DOWN_TO_ZERO)

    def test_where_an_upper_bound_has_no_growth(self):
        self.assertEqual(least_head((WALL,)), (((1, 2), 1, (5, 4)), True))
        self.assertEqual(least_head((LOFTY,)), (just((4, 1)), True))
        self.assertEqual(least_head((("over", (1, 0, 1)),)), (just((1, 2)), True))
        self.assertEqual(least_head((("over", (4, -3, 1)),)), (just((1, 1)), True))
        self.assertEqual(least_head((("quick", (1, 6)),)), (just((3, 2)), True))
        # The slope up to (t - 3 / 4) / 2: as (3 + root(25)) / 4 it is 2.
        self.assertEqual(least_head((("climbs", (1, 1), (3, 4)),)), (just((2, 1)), True))

    def test_where_two_upper_bounds_meet(self):
        # At 3 / 2 the wall lets bends up to 1 / 2, too.
        self.assertEqual(least_head((WALL, ("quick", (1, 2)))), (just((13, 8)), True))
        # The jet through both places.
        self.assertEqual(least_head((("over", (8, 0, 1)), ("over", (1, 1, 1)))), (just((113, 28)), True))
        self.assertEqual(least_head((("over", (8, 0, 1)), ("over", (4, 3, 4)))), (just((4, 1)), True))

    def test_at_an_upright_ask(self):
        self.assertEqual(least_head((WALL, ("dives", (0, 1), (3, 2)))), (just((13, 8)), True))
        self.assertEqual(least_head((WALL, ("climbs", (0, 1), (2, 1)))), (just((5, 3)), True))
        self.assertEqual(least_head((WALL, ("climbs", (0, 1), (1, 1)))), least_head((WALL,)))
        self.assertEqual(least_head((("quick", (1, 4)), ("dives", (0, 1), (-1, 1)))), (just((2, 1)), True))

    def test_at_an_end_where_bounds_meet(self):
        # Roofs and lids beside the wall: slopes from 3 / 4 up to 3 / 2, and 1 alone.
        self.assertEqual(least_head((WALL, ("low", (9, 8)))), (just((13, 8)), True))
        self.assertEqual(least_head((WALL, EAVES)), (just((2, 1)), True))
        self.assertEqual(least_head((WALL, ("low", (1, 1)))), (just((2, 1)), True))
        # Up to 11 / 10 - root(11) / 10, where t * t / (22 / 5) is t / 2 - 1 / 4.
        told, is_reached = least_head((WALL, ("low", (11, 10))))
        self.assertEqual((is_reached, told[1] != 0), (True, True))
        self.check_least((WALL, ("low", (11, 10))))

    def test_a_lid_that_does_not_matter(self):
        self.assertEqual(least_head((WALL, ("low", (9, 1)), ("roof", (1, 9, 1), (3, 9, 1)))), least_head((WALL,)))

    def test_no_jet_does_them(self):
        for asks in (
                (WALL, ("under", (2, 1, 2))), (("dives", (0, 1), (0, 1)), ("climbs", (0, 1), (1, 10 ** 9))),
                (WALL, EAVES, ("under", (20, 9, 10))), (("slow", (2, 1)), ("quick", (1, 1))),
                (WALL, ("dives", (0, 1), (1, 3))), (("low", (1, 1)), ("over", (9, 2, 1)))):
            self.assertIs(least_head(asks), None)
            self.assertEqual(how_many((10 ** 12, 1), asks), "none")

    def test_bends_have_to_be_above_zero(self):
        # With the slope 1 / 2 only the straight way comes over the wall.
        self.assertIs(least_head((WALL, ("dives", (0, 1), (1, 2)))), None)
        told, is_reached = least_head((WALL, ("dives", (0, 1), pair(Fraction(1, 2) + BIT))))
        self.assertIs(is_reached, True)
        self.assertGreater(number(told[0]), 10 ** 10)

    def check_least(self, asks):
        """Jets are good just from the told head on."""
        told = least_head(asks)
        if told is None:
            for head in ((1, 1), (10 ** 9, 1)):
                self.assertTrue(oracle.settles(head, asks, weights(head, asks)))
            return None
        surd, is_reached = told
        self.assertEqual(is_reached, any(
            [ask[0] in ("over", "quick") or ask[0] == "climbs" and ask[1] != (0, 1) for ask in asks]))
        if not is_reached:
            self.assertEqual(told, DOWN_TO_ZERO)
            self.assertTrue(oracle.is_good(any_jet((1, 10 ** 12), asks), (1, 10 ** 12), asks))
            return told
        self.assertTrue(is_surd(surd) and number_below(surd) > 0)
        head = surd[0] if surd[1] == 0 else pair(number_below(surd) + BIT)
        self.assertTrue(oracle.is_good(any_jet(head, asks), head, asks), asks)
        head = pair(number_below(surd) - BIT)
        if head[0] > 0:
            self.assertTrue(oracle.settles(head, asks, weights(head, asks)), asks)
        return told

    def test_made_ones(self):
        maker = Maker(51)
        told = [self.check_least(maker.task()[1]) for _ in range(400)]
        self.assertGreater(told.count(None), 20)
        self.assertGreater(told.count(DOWN_TO_ZERO), 20)
        self.assertGreater(len([one for one in told if one and one[0][1] == 0 and one[1]]), 20)
        self.assertGreater(len([one for one in told if one and one[0][1] != 0]), 20)

    def test_more_asks(self):
        maker = Maker(52)
        for _ in range(200):
            asks = maker.asks(3)
            told, more = least_head(asks), least_head(asks + (maker.ask(),))
            if more is not None:
                self.assertLessEqual(compare(told[0], more[0]), 0)
                self.assertTrue(more[1] or not told[1])

    def test_great_numbers(self):
        maker = Maker(53, 10 ** 30)
        for _ in range(40):
            self.check_least(maker.task()[1])

    def test_wrong_arguments(self):
        check_arguments(self, least_head, [ASKS_ROW])


class ReachTest(unittest.TestCase):

    def test_by_hand(self):
        self.assertEqual([head_through((4, 3, 1)), head_through((4, -3, 1)), head_through((1, 0, 2))],
                         [just((4, 1)), just((1, 1)), just((1, 4))])
        self.assertEqual(head_through((1, 1, 1)), ((1, 2), 1, (1, 2)))
        self.assertEqual([reach((1, 1), (2, 1)), reach((1, 1), (4, 1)), reach((1, 2), (1, 3))],
            [(0, 1), (-3, 1), (4, 9)])
        self.assertEqual([farthest((1, 1), (-3, 1)), farthest((2, 3), (0, 1))], [just((4, 1)), just((4, 3))])
        self.assertEqual(farthest((1, 1), (1, 2)), ((0, 1), 1, (2, 1)))

    def test_none_from_the_head_on(self):
        self.assertEqual([farthest((2, 1), (2, 1)), farthest((2, 1), (9, 1)), farthest((1, 3), (1, 3))], [None] * 3)
        self.assertEqual(farthest((2, 1), pair(2 - BIT)), ((0, 1), 1, pair(8 * BIT)))

    def test_against_one_another(self):
        maker = Maker(54)
        for _ in range(200):
            place = maker.place()
            distance, height = distance_of(place), height_of(place)
            told = head_through(place)
            self.assertTrue(is_surd(told) and number_below(told) > 0)
            self.assertEqual(least_head((("over", place), ("under", place))), (told, True))
            if told[1] == 0:
                self.assertEqual(reach(told[0], distance), height)
                self.assertEqual(farthest(told[0], height), just(distance))
            below, above = pair(number_below(told) - BIT), pair(number_below(told) + BIT)
            self.assertGreater(number(reach(above, distance)), number(height))
            self.assertEqual(compare(farthest(above, height), just(distance)), 1)
            self.assertIn(how_many(above, (("over", place),)), ("one", "many"))
            if below[0] > 0:
                self.assertLess(number(reach(below, distance)), number(height))
                far = farthest(below, height)
                self.assertTrue(far is None or compare(far, just(distance)) == -1)
                self.assertEqual(how_many(below, (("over", place),)), "none")

    def test_the_highest_and_the_farthest_place(self):
        maker = Maker(55)
        for _ in range(100):
            head, distance = maker.above_zero(), maker.above_zero()
            self.assertTrue(is_fraction(reach(head, distance)))
            self.assertEqual(head_through(place_of(distance, reach(head, distance))), just(head))
            height = pair(number(head) - number(maker.above_zero()))
            far = farthest(head, height)
            self.assertTrue(is_surd(far))
            if far[1] == 0:
                self.assertEqual(reach(head, far[0]), height)

    def test_very_great_numbers(self):
        head = (10 ** 400, 7)
        far = farthest(head, (-1, 10 ** 399))
        self.assertTrue(is_surd(far))
        self.assertTrue(is_surd(head_through((10 ** 399, 10 ** 400 - 1, 3))))
        self.assertTrue(is_fraction(reach(head, reach(head, (1, 10 ** 399)))))

    def test_wrong_arguments(self):
        check_arguments(self, head_through, [PLACE_ROW])
        check_arguments(self, reach, [HEAD_ROW, DISTANCE_ROW])
        check_arguments(self, farthest, [HEAD_ROW, ("height", (-1, 2), InvalidFraction, NO_FRACTIONS)])


class SureUpToTest(unittest.TestCase):

    def test_all(self):
        self.assertEqual(sure_up_to((WALL,), ("over", (2, 1, 2))), ("all", None))
        self.assertEqual(sure_up_to((WALL,), WALL), ("all", None))
        self.assertEqual(sure_up_to((WALL,), ("climbs", (0, 1), (1, 2))), ("all", None))
        self.assertEqual(sure_up_to((("quick", (1, 2)),), ("quick", (1, 2))), ("all", None))

    def test_no_jet_does_the_asks(self):
        for ask in (WALL, GATE, ("quick", (1, 9)), ("dives", (0, 1), (-9, 1))):
            self.assertEqual(sure_up_to((WALL, ("under", (2, 1, 2))), ask), ("all", None))

    def test_none_does_the_asks_and_the_opposite(self):
        self.assertEqual(sure_up_to((WALL,), ("over", (4, 1, 2))), ("all", None))
        self.assertEqual(sure_up_to((("slow", (2, 1)),), ("slow", (1, 1))), ("all", None))

    def test_the_opposite_is_done_by_touching_alone(self):
        self.assertEqual(sure_up_to((WALL, GATE), WALL), ("all", None))
        self.assertEqual(sure_up_to((WALL, GATE), GATE), ("all", None))
        sides = (("dives", (0, 1), (1, 1)), ("climbs", (0, 1), (1, 1)))
        for ask in sides:
            self.assertEqual(sure_up_to(sides, ask), ("all", None))
        self.assertEqual(sure_up_to((WALL, EAVES), ("dives", (0, 1), (1, 1))), ("all", None))
        self.assertEqual(sure_up_to((WALL, EAVES), ("dives", (0, 1), pair(1 - BIT))), ("none", None))

    def test_bends_that_come_near_zero(self):
        # What does not rise is below the spout at 1, by less and less.
        down = (("dives", (0, 1), (0, 1)),)
        self.assertEqual(sure_up_to(down, ("under", (1, 0, 1))), ("all", None))
        self.assertEqual(sure_up_to(down, ("under", (2, -1, 2))), ("up to", just((1, 2))))
        self.assertEqual(sure_up_to((), ("slow", (1, 8))), ("up to", just((2, 1))))

    def test_up_to_a_head(self):
        self.assertEqual(sure_up_to((WALL,), LEVEL), ("up to", just((2, 1))))
        self.assertEqual(sure_up_to((), ("under", (4, 3, 1))), ("up to", just((4, 1))))
        self.assertEqual(sure_up_to((), GATE), ("up to", ((1, 2), 1, (5, 4))))
        # The jet through (2, 2) and (4, 3).
        self.assertEqual(sure_up_to((("under", (2, 2, 1)),), ("under", (4, 3, 1))), ("up to", just((41, 8))))

    def test_at_its_own_head_alone(self):
        # At the head 4 (2, 5 / 16) alone is good; with each greater head there are lesser and greater slopes.
        for word in ("dives", "climbs"):
            self.assertEqual(sure_up_to((LOFTY,), (word, (0, 1), (2, 1))), ("up to", just((4, 1))))
        self.assertEqual(status_of((4, 1), (LOFTY,), ("dives", (0, 1), (2, 1))), "sure")
        self.assertEqual(status_of(pair(4 + BIT), (LOFTY,), ("dives", (0, 1), (2, 1))), "open")

    def test_for_no_head(self):
        self.assertEqual(sure_up_to((), WALL), ("none", None))
        self.assertEqual(sure_up_to((LOFTY,), ("dives", (0, 1), (1, 1))), ("none", None))
        # No jet does the asks and the ask.
        self.assertEqual(sure_up_to((GATE,), ("over", (2, 2, 1))), ("none", None))
        self.assertEqual(sure_up_to((("quick", (1, 4)),), ("slow", (1, 3))), ("none", None))
        # Jets of small heads do not.
        self.assertEqual(sure_up_to((), ("quick", (1, 1))), ("none", None))
        self.assertEqual(sure_up_to((), ("climbs", (0, 1), (0, 1))), ("none", None))

    def status(self, head, asks, ask):
        error = error_of(status_of, pair(head), asks, ask)
        return status_of(pair(head), asks, ask) if error is None else error.__class__

    def check_told(self, asks, ask):
        word, surd = sure_up_to(asks, ask)
        least = least_head(asks)
        begin = Fraction(0) if least is None else number_below(least[0])
        heads = [begin + BIT, begin + Fraction(1, 100), begin + 1, Fraction(10 ** 7)]
        if word == "up to":
            self.assertTrue(is_surd(surd) and compare(surd, least[0]) >= 0)
            end = number_below(surd)
            if surd[1] == 0:
                self.assertEqual(self.status(end, asks, ask), "sure")
            self.assertIn(self.status(end + BIT, asks, ask), ("open", "never"))
            heads = [head for head in heads if head < end]
            right = ("sure",)
        else:
            self.assertIs(surd, None)
            right = (NoJetFits, "sure") if word == "all" else ("open", "never")
        for head in heads:
            self.assertIn(self.status(head, asks, ask), right, (asks, ask, head))
        return word

    def test_made_ones(self):
        maker = Maker(56)
        told = []
        for _ in range(400):
            asks = maker.task()[1]
            told.append(self.check_told(asks, maker.ask(OPPOSABLE)))
        for word in ("all", "none", "up to"):
            self.assertGreater(told.count(word), 40)

    def test_asks_that_the_least_jet_just_does(self):
        maker = Maker(57)
        told = []
        for _ in range(200):
            jet = maker.jet()
            asks = tuple([maker.touched(jet) for _ in range(2)])
            ask = maker.touched(jet)
            if ask[0] in OPPOSABLE:
                told.append(self.check_told(asks, ask))
        self.assertGreater(told.count("up to"), 10)

    def test_roof_and_low_are_no_such_asks(self):
        for ask in (EAVES, ("low", (1, 1))):
            for error in (error_of(sure_up_to, (WALL,), ask), error_of(sure_up_to, ask=ask, asks=())):
                self.assertIs(error.__class__, InvalidAsk)
                self.assertIs(error.given, ask)
            self.assertIs(error_of(sure_up_to, (WALL, 5), ask).__class__, InvalidAsks)

    def test_eight_asks_and_one_more(self):
        self.assertEqual(sure_up_to((WALL,) * 8, LEVEL), ("up to", just((2, 1))))

    def test_wrong_arguments(self):
        wrong = NO_ASKS + [EAVES, ("low", (1, 1))]
        check_arguments(self, sure_up_to, [ASKS_ROW, ("ask", WALL, InvalidAsk, wrong)])


if __name__ == "__main__":
    unittest.main()
