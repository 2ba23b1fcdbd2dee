"""spoutlines.wetness (points 28 to 30 of the document)."""

import unittest
from fractions import Fraction
from math import isqrt

from spoutlines.errors import InvalidAsks, InvalidPlace, NoJetFits, NotFarther
from spoutlines.fits import any_jet, weights
from spoutlines.numbers import compare, is_surd
from spoutlines.places import place_of
from spoutlines.ranges import slope_range
from spoutlines.wetness import is_wet, jet_to, piece_side, side_of, slopes_to
from tests import oracle
from tests.oracle import BIT, Maker, highest_jets, number, number_below, pair
from tests.samples import ASKS_ROW, HEAD_ROW, NO_PLACES, PLACE_ROW, check_arguments, error_of

ONE, TWO = (1, 1), (2, 1)
WALL, LOFTY = ("over", (2, 1, 1)), ("over", (4, 3, 1))
# With the head 1 slopes from 1 up to 3, bends from (1 + t * t) / 4 up to t - 1 / 2.
STEP = ("over", (2, 1, 2))


def place(distance, height):
    return place_of(pair(distance), pair(height))


def just(number):
    return ((number, 1), 0, (0, 1))


class PlacesTest(unittest.TestCase):

    def check(self, head, asks, rows):
        """Each place with its side."""
        for distance, height, word in rows:
            at = place(distance, height)
            self.assertEqual(side_of(head, asks, at), word, at)
            self.assertIs(is_wet(head, asks, at), word == "wet")
            jet, slopes = jet_to(head, asks, at), slopes_to(head, asks, at)
            if word == "wet":
                self.assertTrue(oracle.is_good(jet, head, asks))
                self.assertEqual(oracle.height(jet, Fraction(distance)), height)
                self.assertLessEqual(compare(*slopes), 0)
            else:
                self.assertEqual((jet, slopes), (None, None))

    def test_of_a_head(self):
        # Up to 1 - x * x / 4.
        self.check(ONE, (), [
            (1, Fraction(3, 4), "wet"), (1, Fraction(3, 4) + BIT, "under"), (1, 1, "under"), (1, -9, "wet"),
            (2, 0, "wet"), (2, BIT, "under"), (2, -10 ** 9, "wet"), (Fraction(1, 10 ** 9), 0, "wet"), (9, -9, "under")])

    def test_with_asks(self):
        self.check(ONE, (STEP,), [
            (1, Fraction(1, 2), "wet"), (1, Fraction(1, 2) - BIT, "over"), (1, Fraction(1, 4), "over"), (1, 1, "under"),
            (Fraction(1, 2), Fraction(3, 8), "wet"), (Fraction(1, 2), Fraction(3, 8) - BIT, "over"), (2, -4, "wet"),
            (2, -4 - BIT, "over"), (2, 0, "wet"), (2, BIT, "under")])

    def test_one_good_jet_alone(self):
        # (2, 5 / 16)
        self.check((4, 1), (LOFTY,), [
            (4, 3, "wet"), (4, 3 - BIT, "over"), (4, 3 + BIT, "under"), (Fraction(16, 5), Fraction(16, 5), "wet")])
        self.assertEqual(slopes_to((4, 1), (LOFTY,), (4, 3, 1)), (just(2), just(2)))
        self.assertEqual(jet_to((4, 1), (LOFTY,), (4, 3, 1)), ((2, 1), (5, 16)))

    def test_slopes(self):
        self.assertEqual(slopes_to(ONE, (), (4, 3, 4)), (((2, 1), 0, (0, 1)),) * 2)
        self.assertEqual(slopes_to(ONE, (), (1, 0, 1)), (((2, 1), -1, (3, 1)), ((2, 1), 1, (3, 1))))
        self.assertEqual(slopes_to(ONE, (("over", (1, 1, 2)),), (1, 0, 1)), (just(2), ((2, 1), 1, (3, 1))))
        self.assertEqual(slopes_to(ONE, (("under", (1, 1, 2)), ("dives", (0, 1), (1, 1))), (1, 0, 1)),
                         (((2, 1), -1, (3, 1)), just(1)))
        self.assertEqual(slopes_to(TWO, (WALL,), (2, 1, 1)), (just(1), just(3)))

    def test_a_place_that_one_good_jet_alone_comes_through(self):
        # By the head, by an ask on either side of the slopes, by the jet through two places.
        self.assertEqual(jet_to(ONE, (), (4, 3, 4)), ((2, 1), (5, 4)))
        self.assertEqual(jet_to(TWO, (WALL, ("roof", (1, 1, 1), (3, 1, 1))), (2, 1, 1)), ((1, 1), (1, 4)))
        sides = (("dives", (0, 1), (1, 1)), ("climbs", (0, 1), (1, 1)))
        self.assertEqual(jet_to((9, 1), sides, (4, 3, 4)), ((1, 1), (1, 4)))
        both = (("over", (4, 3, 4)), ("under", (4, 3, 4)))
        self.assertEqual(jet_to((9, 1), both, (12, 3, 4)), ((1, 1), (1, 4)))
        self.assertEqual(slopes_to((9, 1), both, (12, 3, 4)), (just(1), just(1)))

    def test_with_no_good_jet_all_is_dry(self):
        for at in ((1, 0, 1), (2, 1, 1), (1, -9, 1)):
            self.assertIs(is_wet(ONE, (WALL,), at), False)
            self.assertIs(jet_to(ONE, (WALL,), at), None)
            self.assertIs(slopes_to(ONE, (WALL,), at), None)
            self.assertIs(error_of(side_of, ONE, (WALL,), at).__class__, NoJetFits)

    def test_eight_asks(self):
        self.assertIs(is_wet(ONE, (STEP,) * 8, (1, 1, 2)), True)
        self.assertEqual(side_of(ONE, (STEP,) * 8, (4, 1, 4)), "over")
        self.assertEqual(slopes_to(ONE, (STEP,) * 8, (2, 1, 2)), (just(1), just(3)))

    def check_slopes(self, head, asks, at, slopes):
        """Jets through the place are good just with these slopes."""
        distance, height = oracle.distance_and_height(at)
        low, high = [number_below(end) for end in slopes]
        self.assertTrue(all([is_surd(end) for end in slopes]))
        tried = [(low - BIT, False), (high + BIT, False), ((low + high) / 2, True)]
        for end, inner, other in ((slopes[0], low + BIT, high), (slopes[1], high - BIT, low)):
            if end[1] == 0:
                tried.append((number(end[0]), True))
            if abs(inner - other) < high - low:
                tried.append((inner, True))
        for slope, right in tried:
            if right and high - low < BIT and slope not in [number(end[0]) for end in slopes if end[1] == 0]:
                continue
            bend = (slope * distance - height) / (distance * distance)
            self.assertIs(bend > 0 and oracle.is_good((pair(slope), pair(bend)), head, asks), right, (head, asks, at))

    def check_made_one(self, maker):
        head, asks = maker.task()
        asks = asks[:6]
        jet, at = any_jet(head, asks), maker.place()
        if jet is None:
            self.assertIs(error_of(side_of, head, asks, at).__class__, NoJetFits)
            self.assertIs(is_wet(head, asks, at), False)
            return "none"
        if maker.random.random() < 0.4:
            at = maker.place_on(jet, number(maker.above_zero()))
        word = side_of(head, asks, at)
        through = asks + (("over", at), ("under", at))
        self.assertIs(is_wet(head, asks, at), word == "wet")
        if word == "wet":
            self.assertTrue(oracle.is_good(jet_to(head, asks, at), head, through))
            self.check_slopes(head, asks, at, slopes_to(head, asks, at))
            return word
        self.assertEqual((jet_to(head, asks, at), slopes_to(head, asks, at)), (None, None))
        self.assertTrue(oracle.settles(head, through, weights(head, through)))
        beyond = asks + (through[-1] if word == "over" else through[-2],)
        self.assertTrue(oracle.settles(head, beyond, weights(head, beyond)))
        return word

    def test_made_ones(self):
        maker = Maker(61)
        told = [self.check_made_one(maker) for _ in range(400)]
        for word in ("none", "wet", "over", "under"):
            self.assertGreater(told.count(word), 5)

    def test_great_numbers(self):
        maker = Maker(62, 10 ** 30)
        for _ in range(50):
            self.check_made_one(maker)

    def test_wrong_arguments(self):
        for function in (is_wet, jet_to, slopes_to, side_of):
            check_arguments(self, function, [HEAD_ROW, ASKS_ROW, PLACE_ROW])
            self.assertIs(error_of(function, ONE, (WALL,), (0, 1, 1)).__class__, InvalidPlace)


class PieceTest(unittest.TestCase):

    def check(self, head, asks, near, far, word):
        self.assertEqual(piece_side(head, asks, place(*near), place(*far)), word, (near, far))

    def check_lowered(self, head, asks, near, far, words):
        """The words for a piece a bit higher, this one, and one a bit lower."""
        told = [piece_side(head, asks, *[place(x, y + bit) for x, y in (near, far)]) for bit in (BIT, 0, -BIT)]
        self.assertEqual(told, words, (near, far))

    def test_touched_from_below_at_its_begin(self):
        # Its straight line comes to the distance 0 below 0, at 0, and above 0.
        for far in ((2, 5), (2, Fraction(3, 2)), (2, Fraction(3, 4))):
            self.check_lowered(ONE, (), (1, Fraction(3, 4)), far, ["under", "meets", "meets"])

    def test_touched_from_below_at_its_end(self):
        for near in ((1, 5), (1, 2), (Fraction(1, 9), 3)):
            self.check_lowered(ONE, (), near, (2, 0), ["under", "meets", "meets"])
        # Jets that fall come to -1 - 1 / 2 and -2 - 2 at most.
        down = (("dives", (0, 1), (-1, 1)),)
        self.check_lowered(ONE, down, (1, -1), (2, -4), ["under", "meets", "meets"])
        self.check(ONE, down, (1, -1), (2, -2), "under")
        self.check_lowered(ONE, down, (1, Fraction(-3, 2)), (2, -3), ["under", "meets", "meets"])

    def test_touched_from_below_between(self):
        self.check_lowered(ONE, (), (Fraction(1, 2), 1), (2, Fraction(1, 4)), ["under", "meets", "meets"])
        # Under (1 / 4, 1 / 4): (1, 1 / 2), and (3, 5 / 2), come to 1 / 2 and 9 / 10 over 1 and 3 / 5.
        asks = (("under", (1, 1, 4)),)
        self.check(ONE, asks, (Fraction(1, 4), Fraction(3, 10)), (Fraction(7, 4), Fraction(3, 10)), "meets")

    def test_just_missed_between(self):
        # There the highest jet has the slope 8 - root(47), its top is (25 - root(47)) / 32, within the piece.
        asks = (("under", (1, 1, 4)),)
        top = (25 - Fraction(isqrt(47 * 10 ** 60), 10 ** 30)) / 32
        for bit, word in ((BIT, "under"), (Fraction(1, 10), "under"), (-BIT, "meets"), (-Fraction(1, 100), "meets")):
            self.check(ONE, asks, (Fraction(1, 4), top + bit), (Fraction(7, 4), top + bit), word)

    def test_touched_from_above(self):
        # At 1 / 2 the least height is 3 / 8.
        near, far = (Fraction(1, 2), Fraction(3, 8)), (Fraction(3, 4), Fraction(1, 4))
        self.check_lowered(ONE, (STEP,), near, far, ["meets", "meets", "over"])
        self.check_lowered(ONE, (STEP,), (1, Fraction(1, 2)), (2, -5), ["meets", "meets", "over"])
        # Its straight line comes from the spout, and from above it.
        self.check_lowered(ONE, (STEP,), (Fraction(1, 2), Fraction(1, 4)), (1, Fraction(1, 2)),
            ["meets", "meets", "over"])
        self.check_lowered(ONE, (STEP,), (1, Fraction(1, 2)), (2, -4), ["meets", "meets", "over"])

    def test_passed_by_far(self):
        self.check(ONE, (), (1, 1), (2, 1), "under")
        self.check(ONE, (), (1, 0), (2, 0), "meets")
        self.check(ONE, (), (1, -99), (2, 99), "meets")
        self.check(ONE, (STEP,), (1, Fraction(1, 4)), (2, -9), "over")
        self.check(ONE, (STEP,), (1, Fraction(1, 4)), (4, 9), "meets")
        self.check(ONE, (STEP,), (Fraction(1, 10), -9), (1, -9), "over")

    def test_one_good_jet_alone(self):
        asks = (LOFTY,)
        self.check_lowered((4, 1), asks, (3, Fraction(16, 5)), (4, Fraction(16, 5)), ["under", "meets", "meets"])
        self.check_lowered((4, 1), asks, (3, 3), (4, 3), ["meets", "meets", "over"])
        self.check((4, 1), asks, (4, 4), (5, 4), "under")

    def test_made_ones(self):
        maker = Maker(63)
        told = []
        while len(told) < 300:
            head, asks = maker.task()
            asks = asks[:7]
            near, far = maker.places()
            jet = any_jet(head, asks)
            if jet is None:
                self.assertIs(error_of(piece_side, head, asks, near, far).__class__, NoJetFits)
                continue
            if maker.random.random() < 0.3:
                distance = number(maker.above_zero())
                near, far = maker.touched_roof(jet, distance)[1:]
            told.append(piece_side(head, asks, near, far))
            self.check_ends(head, asks, near, far, told[-1])
            for good in highest_jets(head, asks, 30):
                self.check_jet(good, near, far, told[-1])
        for word in ("over", "under", "meets"):
            self.assertGreater(told.count(word), 3)

    def check_jet(self, jet, near, far, word):
        begin, end, top = oracle.heights_over(jet, near, far)
        if word == "over":
            self.assertTrue(begin > 0 and end > 0)
        if word == "under":
            self.assertLess(top, 0)

    def check_ends(self, head, asks, near, far, word):
        reached = {side: [asks + ((side, end),) for end in (near, far)] for side in ("over", "under")}
        if word == "meets":
            # Some good jet is not above it at an end, some comes up to it somewhere.
            self.assertTrue(any([any_jet(head, more) for more in reached["under"]]))
            if not any([any_jet(head, more) for more in reached["over"]]):
                tops = (oracle.heights_over(jet, near, far)[2] for many in (60, 4000)
                        for jet in highest_jets(head, asks, many))
                self.assertTrue(any(top >= 0 for top in tops) or self.is_touched(head, asks, near, far))
        else:
            for more in reached["under" if word == "over" else "over"]:
                self.assertTrue(oracle.settles(head, more, weights(head, more)))

    def is_touched(self, head, asks, near, far):
        """Whether it is touched as nearly as can be seen."""
        return any([-oracle.heights_over(jet, near, far)[2] < Fraction(1, 10 ** 4)
                    for jet in highest_jets(head, asks, 4000)])

    def test_not_farther_is_told_last_but_for_no_jet_fits(self):
        for other in ((1, 0, 1), (1, 5, 1), (1, 0, 2)):
            for asks in ((), (WALL,)):
                for error in (error_of(piece_side, ONE, asks, (1, 1, 1), other),
                              error_of(piece_side, other=other, place=(1, 1, 1), asks=asks, head=ONE)):
                    self.assertIs(error.__class__, NotFarther)
                    self.assertIs(error.given, other)
        self.assertIs(error_of(piece_side, ONE, (WALL,), (1, 0, 1), (2, 0, 1)).__class__, NoJetFits)
        self.assertIs(error_of(piece_side, ONE, (WALL, WALL, 0), (1, 0, 1), (1, 0, 1)).__class__, InvalidAsks)
        self.assertIs(error_of(piece_side, ONE, (WALL,), (1, 0, 1), (0, 0, 1)).__class__, InvalidPlace)

    def test_wrong_arguments(self):
        for other in ((3, 0, 1), (1, 0, 1)):
            check_arguments(self, piece_side,
                [HEAD_ROW, ASKS_ROW, PLACE_ROW, ("other", other, InvalidPlace, NO_PLACES)])

    def test_very_great_numbers(self):
        great = 10 ** 399
        asks = (("over", (great, great + 1, 7)),)
        slopes = slope_range((10 ** 400, 3), asks)
        self.assertTrue(all([is_surd(end) for end in slopes]))
        self.assertEqual(piece_side((10 ** 400, 3), asks, (great, great + 1, 7), (great, great, 1)), "meets")
        self.assertEqual(side_of((10 ** 400, 3), asks, (great, great, 7)), "over")


if __name__ == "__main__":
    unittest.main()
