"""spoutlines.asks (points 12 to 17 of the document)."""

import unittest
from fractions import Fraction

from spoutlines.asks import (
    bound_at, bound_parts, does, does_all, grown_ask, is_ask, is_good, row_of, sheared_ask,
)
from spoutlines.errors import InvalidAsk, InvalidDistance, InvalidFraction
from spoutlines.jets import grown_jet, head_of, sheared_jet
from spoutlines.numbers import is_fraction
from tests import oracle
from tests.oracle import UPPER, WORDS, Maker, number, pair
from tests.samples import (
    ASK_ROW, ASKS, ASKS_ROW, FRACTIONS, HEAD_ROW, JET_ROW, JETS, NO_ASKS, NO_FRACTIONS, NOT_ABOVE_ZERO, check_arguments,
    error_of,
)

ARCH = ((1, 1), (1, 4))
LEVEL = ((0, 1), (1, 4))
BARE = ((0, 1), (0, 1), (0, 1))


class IsAskTest(unittest.TestCase):

    def test_asks(self):
        for value in ASKS:
            self.assertIs(is_ask(value), True, value)
            self.assertIs(is_ask(value=value), True)

    def test_anything_else(self):
        for at, value in enumerate(NO_ASKS):
            self.assertIs(is_ask(value), False, at)

    def test_asks_are_no_ask(self):
        self.assertIs(is_ask(tuple(ASKS)), False)
        self.assertIs(is_ask((ASKS[0],)), False)


class DoesTest(unittest.TestCase):
    """The arch is at 3 / 4 at the distances 1 and 3, at its top 1 at the distance 2, and at 0 at the distance 4."""

    def check(self, done, not_done, jet=ARCH):
        for ask in done:
            self.assertIs(does(jet, ask), True, ask)
        for ask in not_done:
            self.assertIs(does(jet, ask), False, ask)

    def test_over_and_under(self):
        # At the distance 1.
        touched, far_above, far_below = (4, 3, 4), (1, 99, 1), (1, -99, 1)
        above, below = (4 * 10 ** 9, 3 * 10 ** 9 + 1, 4 * 10 ** 9), (4 * 10 ** 9, 3 * 10 ** 9 - 1, 4 * 10 ** 9)
        self.check([("over", touched), ("over", below), ("over", far_below)], [("over", above), ("over", far_above)])
        self.check([("under", touched), ("under", above), ("under", far_above)],
                   [("under", below), ("under", far_below)])

    def test_a_roof_that_is_touched_at_an_end(self):
        self.check([("roof", (4, 3, 4), (3, 9, 1)), ("roof", (1, 9, 1), (12, 3, 4)), ("roof", (1, 99, 1), (4, 0, 1))],
                   [("roof", (8, 5, 8), (3, 9, 1)), ("roof", (1, 9, 1), (24, 5, 8)), ("roof", (1, 99, 1), (8, -1, 2))])

    def test_a_roof_that_is_touched_within(self):
        # The second one, 1 / 4 + d / 2, is touched at the distance 1; the last one is 1 / 100 lower.
        self.check([("roof", (1, 1, 1), (3, 1, 1)), ("roof", (1, 1, 2), (8, 5, 4))],
                   [("roof", (10, 9, 10), (30, 9, 10)), ("roof", (50, 49, 100), (50, 31, 25))])

    def test_roofs_by_far(self):
        self.check([("roof", (1, 9, 1), (3, 9, 1)), ("roof", (1, 1, 1), (3, 9, 1)), ("roof", (5, 0, 1), (6, -1, 1))],
                   [("roof", (1, -9, 1), (3, -9, 1)), ("roof", (1, 9, 1), (3, -9, 1)), ("roof", (1, 0, 1), (3, 1, 1))])

    def test_low(self):
        self.check([("low", (1, 1)), ("low", (7, 2))], [("low", (10 ** 9 - 1, 10 ** 9)), ("low", (1, 9))])
        for jet in (LEVEL, ((-3, 1), (1, 4))):
            self.check([("low", (1, 10 ** 9)), ("low", (9, 1))], [], jet)

    def test_dives_and_climbs(self):
        # The slope of the arch is 1 less half the distance.
        self.check([("dives", (2, 1), (0, 1)), ("dives", (3, 1), (0, 1)), ("dives", (3, 1), (-1, 2))],
                   [("dives", (3, 1), (-2, 3)), ("dives", (1, 1), (0, 1)), ("dives", (2, 1), (-1, 10 ** 9))])
        self.check([("climbs", (2, 1), (0, 1)), ("climbs", (1, 1), (0, 1)), ("climbs", (3, 1), (-1, 2))],
                   [("climbs", (3, 1), (-1, 3)), ("climbs", (3, 1), (0, 1)), ("climbs", (2, 1), (1, 10 ** 9))])

    def test_dives_and_climbs_at_the_spout(self):
        self.check([("dives", (0, 1), (1, 1)), ("dives", (0, 1), (5, 1))], [("dives", (0, 1), (9, 10))])
        self.check([("climbs", (0, 1), (1, 1)), ("climbs", (0, 1), (-5, 1))], [("climbs", (0, 1), (11, 10))])

    def test_quick_and_slow(self):
        self.check([("quick", (1, 4)), ("quick", (5, 1))], [("quick", (10 ** 9, 4 * 10 ** 9 + 1)), ("quick", (1, 9))])
        self.check([("slow", (1, 4)), ("slow", (1, 99))], [("slow", (10 ** 9, 4 * 10 ** 9 - 1)), ("slow", (9, 1))])

    def test_made_ones(self):
        maker = Maker(11)
        for word in WORDS:
            told = []
            for at in range(300):
                jet = maker.jet()
                ask = maker.touched(jet) if at % 3 == 0 else maker.ask((word,))
                told.append(does(jet, ask))
                self.assertIs(told[-1], oracle.does(jet, ask), (jet, ask))
                if at % 3 == 0:
                    self.assertIs(told[-1], True, (jet, ask))
            self.assertGreater(told.count(False), 5, word)

    def test_asks_that_a_jet_just_misses(self):
        maker = Maker(12)
        bit = Fraction(1, 10 ** 30)
        for _ in range(400):
            jet = maker.jet()
            ask = maker.touched(jet)
            if ask[0] == "roof" or ask[0] == "low":
                # A little steeper from the spout on, and a little less bent.
                missing = (pair(number(jet[0]) + bit), pair(number(jet[1]) * (1 - bit)))
            elif ask[0] in ("over", "climbs", "quick"):
                missing = (pair(number(jet[0]) - bit), pair(number(jet[1]) + bit))
            else:
                missing = (pair(number(jet[0]) + bit), pair(number(jet[1]) - bit))
            self.assertIs(does(jet, ask), True)
            self.assertIs(does(missing, ask), False, (jet, ask))

    def test_does_all(self):
        maker = Maker(13)
        for _ in range(300):
            head, asks = maker.task()
            jet = maker.jet()
            self.assertIs(does_all(jet, asks), all(oracle.does(jet, ask) for ask in asks))
            self.assertIs(is_good(jet, head, asks), oracle.is_good(jet, head, asks))
        self.assertIs(does_all(ARCH, ()), True)

    def test_is_good_counts_the_own_head(self):
        self.assertIs(is_good(ARCH, (2, 1), ()), True)
        self.assertIs(is_good(ARCH, (2 * 10 ** 9 - 1, 10 ** 9), ()), False)
        self.assertIs(is_good(ARCH, (3, 1), (("over", (2, 1, 1)), ("low", (1, 2)))), False)

    def test_between_good_jets_all_are_good(self):
        maker = Maker(14)
        checked = 0
        while checked < 200:
            jet, other = maker.jet(), maker.jet()
            head = pair(max(oracle.head(jet), oracle.head(other)))
            asks = tuple([ask for ask in maker.asks(8) if does(jet, ask) and does(other, ask)])
            share = Fraction(maker.random.randint(0, 7), 7)
            between = tuple([pair(number(one) + share * (number(two) - number(one))) for one, two in zip(jet, other)])
            self.assertIs(is_good(between, head, asks), True)
            checked += len(asks) > 0

    def test_very_great_numbers(self):
        for jet in JETS:
            for ask in ASKS:
                self.assertIs(does(jet, ask), oracle.does(jet, ask), ask)

    def test_wrong_arguments(self):
        check_arguments(self, does, [JET_ROW, ASK_ROW])
        check_arguments(self, does_all, [JET_ROW, ASKS_ROW])
        check_arguments(self, is_good, [JET_ROW, HEAD_ROW, ASKS_ROW])


class BoundTest(unittest.TestCase):

    def check_value(self, parts, slope, told):
        """Each part that has the slope tells the same."""
        found = 0
        for low, high, (constant, growth, square) in parts:
            if (low is None or number(low) <= slope) and (high is None or slope <= number(high)):
                found += 1
                self.assertEqual(number(constant) + number(growth) * slope + number(square) * slope * slope, told)
        self.assertIn(found, (1, 2))

    def check_bends(self, ask, slope):
        """The bends that are told do the ask, those beyond do not."""
        word, told = bound_at(ask, pair(slope))
        self.assertEqual(word, "most" if ask[0] in UPPER else "least")
        bit = Fraction(1, 10 ** 9)
        for bend in (number(told), number(told) + bit, number(told) - bit, number(told) + 9, number(told) - 9):
            if bend > 0:
                right = bend <= number(told) if word == "most" else bend >= number(told)
                self.assertIs(oracle.does((pair(slope), pair(bend)), ask), right, (ask, slope, bend))
        return number(told)

    def check_rows(self, ask, slope, told):
        """A bend does the ask just if no row is below 0."""
        distances = [Fraction(0)]
        if ask[0] == "roof":
            near, far = [oracle.distance_and_height(place)[0] for place in ask[1:]]
            distances = [near, far] + [near + (far - near) * Fraction(at, 8) for at in range(1, 8)]
        if ask[0] == "low":
            distances = [Fraction(at, 4) for at in range(1, 30)]
        for distance in distances:
            p, q, r = [number(one) for one in row_of(ask, pair(distance))]
            row_bound = -(p * slope + r) / q
            if ask[0] in UPPER:
                self.assertLess(q, 0)
                self.assertEqual(row_bound, told)
            else:
                self.assertGreater(q, 0)
                self.assertLessEqual(row_bound, told)
                if len(distances) == 1:
                    self.assertEqual(row_bound, told)

    def test_against_one_another(self):
        maker = Maker(15)
        for _ in range(250):
            ask = maker.ask()
            parts = bound_parts(ask)
            if ask[0] in ("dives", "climbs") and ask[1] == (0, 1):
                self.assertEqual(parts, ())
                continue
            joints = [number(high) for _, high, _ in parts[:-1]]
            within = [number(maker.fraction()) for _ in range(3)] + [Fraction(-50), Fraction(50)]
            within += [joint + way * Fraction(1, 10 ** 6) for joint in joints for way in (-1, 1)]
            within += [(one + other) / 2 for one, other in zip(joints, joints[1:])]
            for slope in joints + within:
                told = self.check_bends(ask, slope)
                self.check_value(parts, slope, told)
                self.check_rows(ask, slope, told)

    def test_parts_stand_in_a_row(self):
        maker = Maker(16)
        many = {"roof": (2, 3), "low": (2,)}
        for _ in range(300):
            ask = maker.ask()
            parts = bound_parts(ask)
            if parts == ():
                self.assertEqual((ask[0] in ("dives", "climbs"), ask[1]), (True, (0, 1)))
                continue
            self.assertIn(len(parts), many.get(ask[0], (1,)))
            self.assertEqual((parts[0][0], parts[-1][1]), (None, None))
            for part, later in zip(parts, parts[1:]):
                self.assertEqual(part[1], later[0])
                self.assertNotEqual(part[2], later[2])
            for low, high, polynomial in parts:
                self.assertTrue(all(is_fraction(one) for one in polynomial) and len(polynomial) == 3)
                self.assertTrue(low is None or high is None or number(low) < number(high))

    def test_parts_of_one(self):
        self.assertEqual(bound_parts(("over", (2, 1, 1))), ((None, None, ((-1, 4), (1, 2), (0, 1))),))
        self.assertEqual(bound_parts(("under", (2, 1, 1))), bound_parts(("over", (2, 1, 1))))
        self.assertEqual(bound_parts(("over", (1, -2, 1))), ((None, None, ((2, 1), (1, 1), (0, 1))),))
        self.assertEqual(bound_parts(("dives", (2, 1), (3, 1))), ((None, None, ((-3, 4), (1, 4), (0, 1))),))
        self.assertEqual(bound_parts(("climbs", (1, 2), (-3, 1))), ((None, None, ((3, 1), (1, 1), (0, 1))),))
        self.assertEqual(bound_parts(("quick", (2, 3))), ((None, None, ((2, 3), (0, 1), (0, 1))),))
        self.assertEqual(bound_parts(("slow", (2, 3))), ((None, None, ((2, 3), (0, 1), (0, 1))),))

    def test_upright_ones(self):
        for word, words in (("dives", ("all", "all", "none")), ("climbs", ("none", "all", "all"))):
            ask = (word, (0, 1), (1, 2))
            self.assertEqual(bound_parts(ask), ())
            told = [bound_at(ask, slope) for slope in ((0, 1), (1, 2), (10 ** 9, 10 ** 9 + 1))]
            self.assertEqual(told, [(one, None) for one in words])

    def test_low(self):
        ask = ("low", (2, 3))
        self.assertEqual(bound_parts(ask), ((None, (0, 1), BARE), ((0, 1), None, ((0, 1), (0, 1), (3, 8)))))
        told = [bound_at(ask, slope) for slope in ((-9, 1), (0, 1), (1, 10 ** 9), (2, 1))]
        self.assertEqual(told, [("least", one) for one in ((0, 1), (0, 1), (3, 8 * 10 ** 18), (3, 2))])

    def test_a_roof_whose_way_comes_from_above_the_spout(self):
        # 2 - d from 1 to 4: m is -1, k is 2.
        ask = ("roof", (1, 1, 1), (4, -2, 1))
        self.assertEqual(bound_parts(ask), (
            (None, (0, 1), ((1, 8), (1, 4), (0, 1))), ((0, 1), (3, 1), ((1, 8), (1, 4), (1, 8))),
            ((3, 1), None, ((-1, 1), (1, 1), (0, 1)))))
        told = [bound_at(ask, slope)[1] for slope in ((-2, 1), (0, 1), (1, 1), (3, 1), (4, 1))]
        self.assertEqual(told, [(-3, 8), (1, 8), (1, 2), (2, 1), (3, 1)])

    def test_a_roof_whose_way_comes_from_the_spout(self):
        ask = ("roof", (1, 2, 1), (2, 4, 1))
        self.assertEqual(bound_parts(ask), (
            (None, (2, 1), ((-1, 1), (1, 2), (0, 1))), ((2, 1), None, ((-2, 1), (1, 1), (0, 1)))))
        self.assertEqual([bound_at(ask, slope)[1] for slope in ((0, 1), (2, 1), (3, 1))], [(-1, 1), (0, 1), (1, 1)])

    def test_a_roof_whose_way_comes_from_below_the_spout(self):
        # -2 + d from 1 to 2: k / a + k / b is -3.
        ask = ("roof", (1, -1, 1), (2, 0, 1))
        self.assertEqual(bound_parts(ask), (
            (None, (-2, 1), ((0, 1), (1, 2), (0, 1))), ((-2, 1), None, ((1, 1), (1, 1), (0, 1)))))
        self.assertEqual([bound_at(ask, slope)[1] for slope in ((-4, 1), (-2, 1), (0, 1))], [(-2, 1), (-1, 1), (1, 1)])

    def test_very_great_numbers(self):
        for ask in ASKS:
            for slope in FRACTIONS:
                word, told = bound_at(ask, slope)
                self.assertTrue(told is None or is_fraction(told))
                self.assertEqual(bound_at(ask, slope), (word, told))
            for part in bound_parts(ask):
                # What was returned may be passed on.
                self.assertEqual(len(bound_at(ask, part[2][0])), 2)

    def test_wrong_arguments(self):
        check_arguments(self, bound_at, [ASK_ROW, ("slope", (-1, 2), InvalidFraction, NO_FRACTIONS)])
        check_arguments(self, bound_parts, [ASK_ROW])


class RowTest(unittest.TestCase):

    def test_rows(self):
        place, at_spout = (4, 3, 2), (0, 1)
        self.assertEqual(row_of(("over", place), at_spout), ((2, 1), (-4, 1), (-3, 2)))
        self.assertEqual(row_of(("under", place), at_spout), ((-2, 1), (4, 1), (3, 2)))
        self.assertEqual(row_of(("dives", (2, 3), (5, 1)), at_spout), ((-1, 1), (4, 3), (5, 1)))
        self.assertEqual(row_of(("climbs", (2, 3), (5, 1)), at_spout), ((1, 1), (-4, 3), (-5, 1)))
        self.assertEqual(row_of(("dives", (0, 1), (5, 1)), at_spout), ((-1, 1), (0, 1), (5, 1)))
        self.assertEqual(row_of(("climbs", (0, 1), (5, 1)), at_spout), ((1, 1), (0, 1), (-5, 1)))
        self.assertEqual(row_of(("quick", (5, 2)), at_spout), ((0, 1), (-1, 1), (5, 2)))
        self.assertEqual(row_of(("slow", (5, 2)), at_spout), ((0, 1), (1, 1), (-5, 2)))
        self.assertEqual(row_of(("low", (5, 2)), (1, 3)), ((-1, 3), (1, 9), (5, 2)))

    def test_roofs_at_their_ends_and_within(self):
        roof = ("roof", (1, 1, 1), (3, 2, 1))
        self.assertEqual(row_of(roof, (1, 1)), row_of(("under", (1, 1, 1)), (0, 1)))
        self.assertEqual(row_of(roof, (3, 1)), row_of(("under", (3, 2, 1)), (0, 1)))
        self.assertEqual(row_of(roof, (2, 1)), row_of(("under", (4, 3, 2)), (0, 1)))

    def test_distances_that_are_none(self):
        roof = ("roof", (1, 1, 1), (3, 2, 1))
        above = 10 ** 9
        rows = [
            (roof, [(0, 1), (above - 1, above), (3 * above + 1, above), (-2, 1), (4, 2), 2]),
            (("low", (5, 2)), NOT_ABOVE_ZERO), (("over", (2, 1, 1)), [(2, 1), (1, 1), (-1, 2), 2]),
        ]
        rows += [(ask, [(2, 1), (1, 2), (-1, 1)]) for ask in ASKS if ask[0] not in ("roof", "low")]
        for ask, distances in rows:
            for distance in distances + NO_FRACTIONS:
                error = error_of(row_of, ask, distance)
                self.assertIs(error.__class__, InvalidDistance, (ask, distance.__class__))
                self.assertIs(error.given, distance)

    def test_made_ones(self):
        maker = Maker(17)
        for _ in range(300):
            ask = maker.ask()
            distance = (0, 1)
            if ask[0] == "roof":
                near, far = [oracle.distance_and_height(place)[0] for place in ask[1:]]
                distance = pair(near + (far - near) * number(maker.random.choice([(0, 1), (1, 3), (1, 1)])))
            if ask[0] == "low":
                distance = maker.above_zero()
            told = row_of(ask, distance)
            self.assertTrue(all(is_fraction(one) for one in told))
            self.assertEqual(tuple([number(one) for one in told]), oracle.row(ask, distance))

    def test_wrong_arguments(self):
        check_arguments(self, row_of,
            [ASK_ROW, ("distance", (0, 1), InvalidDistance, NO_FRACTIONS + [(1, 2), (-1, 2)])])


class GrownAndShearedTest(unittest.TestCase):

    def test_grown(self):
        half = (1, 2)
        self.assertEqual(grown_ask(("over", (2, 1, 1)), half), ("over", (2, 1, 2)))
        self.assertEqual(grown_ask(("under", (1, 2, 2)), half), ("under", (1, 2, 4)))
        self.assertEqual(grown_ask(("roof", (1, 1, 1), (3, 1, 1)), half), ("roof", (1, 1, 2), (3, 1, 2)))
        self.assertEqual(grown_ask(("low", (3, 1)), half), ("low", (3, 2)))
        self.assertEqual(grown_ask(("dives", (3, 1), (5, 1)), half), ("dives", (3, 2), (5, 1)))
        self.assertEqual(grown_ask(("climbs", (0, 1), (5, 1)), half), ("climbs", (0, 1), (5, 1)))
        self.assertEqual(grown_ask(("quick", (3, 1)), half), ("quick", (6, 1)))
        self.assertEqual(grown_ask(("slow", (3, 1)), (2, 1)), ("slow", (3, 2)))

    def test_sheared(self):
        third = (1, 3)
        self.assertEqual(sheared_ask(("over", (3, 1, 1)), third), ("over", (3, 2, 1)))
        self.assertEqual(sheared_ask(("under", (3, 1, 1)), (-2, 1)), ("under", (3, -5, 1)))
        self.assertEqual(sheared_ask(("roof", (1, 1, 1), (3, 1, 1)), (1, 1)), ("roof", (1, 2, 1), (3, 4, 1)))
        self.assertEqual(sheared_ask(("dives", (3, 1), (5, 1)), third), ("dives", (3, 1), (16, 3)))
        self.assertEqual(sheared_ask(("climbs", (0, 1), (5, 1)), (-5, 1)), ("climbs", (0, 1), (0, 1)))
        self.assertEqual(sheared_ask(("quick", (3, 1)), third), ("quick", (3, 1)))
        self.assertEqual(sheared_ask(("slow", (3, 1)), (-9, 1)), ("slow", (3, 1)))
        self.assertEqual(sheared_ask(("over", (3, 1, 1)), (0, 1)), ("over", (3, 1, 1)))

    def test_what_is_done_stays(self):
        maker = Maker(18)
        for _ in range(500):
            jet, fraction = maker.jet(), maker.fraction()
            ask = maker.touched(jet) if maker.random.random() < 0.3 else maker.ask()
            if ask[0] != "low":
                told = sheared_ask(ask, fraction)
                self.assertTrue(is_ask(told))
                self.assertIs(does(sheared_jet(jet, fraction), told), does(jet, ask))
            if fraction[0] > 0:
                told, moved = grown_ask(ask, fraction), grown_jet(jet, fraction)
                self.assertTrue(is_ask(told))
                self.assertIs(does(moved, told), does(jet, ask))
                grown_head = pair(number(head_of(jet)) * number(fraction))
                self.assertIs(is_good(moved, grown_head, (told,)), does(jet, ask))

    def test_low_is_not_sheared_told_last(self):
        low = ("low", (1, 2))
        for error in (error_of(sheared_ask, low, (0, 1)), error_of(sheared_ask, fraction=(1, 2), ask=low)):
            self.assertIs(error.__class__, InvalidAsk)
            self.assertIs(error.given, low)
        self.assertIs(error_of(sheared_ask, low, (2, 4)).__class__, InvalidFraction)

    def test_very_great_numbers(self):
        for ask in ASKS:
            for fraction in FRACTIONS:
                self.assertTrue(ask[0] == "low" or is_ask(sheared_ask(ask, fraction)))
                if fraction[0] > 0:
                    self.assertEqual(grown_ask(grown_ask(ask, fraction), fraction[::-1]), ask)

    def test_wrong_arguments(self):
        for right in (ASK_ROW[1], ("low", (1, 2))):
            check_arguments(self, grown_ask, [
                ("ask", right, InvalidAsk, NO_ASKS),
                ("fraction", (1, 2), InvalidFraction, NO_FRACTIONS + NOT_ABOVE_ZERO)])
            check_arguments(self, sheared_ask, [
                ("ask", right, InvalidAsk, NO_ASKS), ("fraction", (-1, 2), InvalidFraction, NO_FRACTIONS)])


if __name__ == "__main__":
    unittest.main()
