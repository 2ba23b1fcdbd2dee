"""spoutlines.misses: good jets that do not do a further ask (points 15 and 23 of the document)."""

import unittest
from fractions import Fraction

from spoutlines.asks import is_ask, row_of
from spoutlines.fits import any_jet
from spoutlines.misses import jet_missing, missed_by
from spoutlines.places import place_of
from spoutlines.sayings import entails
from tests import oracle
from tests.oracle import BIT, Maker, number, pair

ONE, TWO = (1, 1), (2, 1)
# With the head 2 slopes from 1 up to 3, bends from (1 + t * t) / 8 up to t / 2 - 1 / 4; with the head 3 slopes from
# 3 - root(5) up to 3 + root(5).
WALL, EAVES = ("over", (2, 1, 1)), ("roof", (1, 1, 1), (3, 1, 1))
LOFTY, LOFTY_JET = ("over", (4, 3, 1)), ((2, 1), (5, 16))
TINY = Fraction(1, 10 ** 30)


def place(distance, height):
    return place_of(pair(distance), pair(height))


class MissedTest(unittest.TestCase):

    def test_what_misses_by_a_gap(self):
        rows = [
            (WALL, ("under", (4, 1, 2))), (("under", (2, 1, 1)), ("over", (4, 3, 2))),
            (("dives", (2, 1), (0, 1)), ("climbs", (2, 1), (1, 2))),
            (("climbs", (0, 1), (0, 1)), ("dives", (0, 1), (-1, 2))), (("quick", (1, 4)), ("slow", (3, 4))),
            (("slow", (3, 4)), ("quick", (1, 4))),
        ]
        for ask, told in rows:
            self.assertEqual(missed_by(ask, (1, 2)), told)

    def test_made_ones(self):
        # It is done just if the row of the ask is below 0 by the gap at least.
        maker = Maker(131)
        done = 0
        for _ in range(400):
            ask, jet = maker.ask(("over", "under", "dives", "climbs", "quick")), maker.jet()
            gap = maker.above_zero()
            missed = missed_by(ask, gap)
            self.assertTrue(is_ask(missed))
            row = [number(one) for one in row_of(ask, (0, 1))]
            value = row[0] * number(jet[0]) + row[1] * number(jet[1]) + row[2]
            self.assertIs(oracle.does(jet, missed), value <= -number(gap))
            done += value <= -number(gap)
        self.assertTrue(40 < done < 360)


class JetTest(unittest.TestCase):

    def check(self, head, asks, ask, is_there=True):
        jet = jet_missing(head, asks, ask)
        self.assertIs(jet is not None, is_there, (head, asks, ask))
        self.assertIs(entails(head, asks, (ask,)), not is_there)
        if is_there:
            self.assertTrue(oracle.is_good(jet, head, asks))
            self.assertFalse(oracle.does(jet, ask))

    def check_around(self, head, asks, ask_for, end, bit):
        """All do the ask at the end, and not a bit beyond."""
        self.check(head, asks, ask_for(end), False)
        self.check(head, asks, ask_for(end - bit), False)
        for beyond in (bit, bit * BIT, 1000000 * bit):
            self.check(head, asks, ask_for(end + beyond))

    def test_ends_that_are_fractions(self):
        self.check_around(TWO, (WALL,), lambda value: ("over", place(4, value)), -8, TINY)
        self.check_around(TWO, (WALL,), lambda value: ("under", place(4, value)), 0, -TINY)
        self.check_around(TWO, (WALL,), lambda value: ("dives", (0, 1), pair(value)), 3, -TINY)
        self.check_around(TWO, (WALL,), lambda value: ("climbs", (0, 1), pair(value)), 1, TINY)
        self.check_around(TWO, (WALL,), lambda value: ("dives", (2, 1), pair(value)), 0, -TINY)
        self.check_around(TWO, (WALL,), lambda value: ("quick", pair(value)), Fraction(5, 4), -TINY)
        self.check_around(TWO, (WALL,), lambda value: ("slow", pair(value)), Fraction(1, 4), TINY)
        self.check_around(TWO, (WALL,), lambda value: ("low", pair(value)), Fraction(9, 5), -TINY)
        self.check_around(TWO, (WALL,), lambda value: ("roof", place(1, 2 + value), place(3, 1 + value)), 0, -TINY)

    def test_ends_that_are_surds(self):
        root = Fraction(oracle.isqrt(5 * 10 ** 60), 10 ** 30)
        self.check((3, 1), (WALL,), ("dives", (0, 1), pair(3 + root)))
        self.check((3, 1), (WALL,), ("dives", (0, 1), pair(3 + root + TINY)), False)
        self.check((3, 1), (WALL,), ("climbs", (0, 1), pair(3 - root)))
        self.check((3, 1), (WALL,), ("climbs", (0, 1), pair(3 - root - TINY)), False)
        # The bends, t / 2 - 1 / 4, go from 5 / 4 - root(5 / 4) to 5 / 4 + root(5 / 4).
        self.check((3, 1), (WALL,), ("quick", pair(Fraction(5, 4) + root / 2)))
        self.check((3, 1), (WALL,), ("quick", pair(Fraction(5, 4) + root / 2 + TINY)), False)

    def test_endless_ones(self):
        for ask in (("over", (2, -10 ** 9, 1)), ("dives", (0, 1), (10 ** 9, 1)), ("climbs", (0, 1), (-10 ** 9, 1)),
                    ("climbs", (3, 1), (-10 ** 9, 1)), ("quick", (10 ** 9, 1)), EAVES, ("low", (1, 10 ** 9))):
            self.check(TWO, (), ask)
        for ask in (("low", TWO), ("under", (4, 3, 2)), ("slow", (1, 8)), ("roof", (1, 9, 1), (3, 9, 1))):
            self.check(TWO, (), ask, False)
        self.check(TWO, (), ("low", pair(2 - TINY)))
        self.check(TWO, (), ("roof", place(1, 2 - TINY), place(3, 1 - TINY)))

    def test_where_the_ask_bounds_them_itself(self):
        # All jets with slopes from 1 on that are as high as may be just do it.
        self.check(TWO, (("low", ONE),), ("low", ONE), False)
        self.check(TWO, (("low", ONE), EAVES), EAVES, False)
        self.check(TWO, (("under", (2, 1, 1)),), ("roof", (2, 1, 1), (3, 9, 1)), False)
        self.check(TWO, (("low", ONE),), ("low", pair(1 - TINY)))

    def test_one_good_jet(self):
        for ask in (LOFTY, ("under", (4, 3, 1)), ("low", (16, 5)), ("quick", (5, 16)), ("slow", (5, 16)),
                    ("dives", (0, 1), (2, 1)), ("roof", place(3, Fraction(16, 5)), place(5, Fraction(16, 5)))):
            self.check((4, 1), (LOFTY,), ask, False)
        for ask in (("under", place(4, 3 - TINY)), ("low", pair(Fraction(16, 5) - TINY)), ("quick", (1, 4)),
                    ("roof", place(3, 3), place(5, 3))):
            self.assertEqual(jet_missing((4, 1), (LOFTY,), ask), LOFTY_JET)

    def test_no_good_jet(self):
        for ask in (EAVES, WALL, ("low", (1, 9)), ("quick", (1, 9))):
            self.check(ONE, (WALL,), ask, False)

    def test_one_slope_with_many_bends(self):
        asks = (("dives", (0, 1), (1, 1)), ("climbs", (0, 1), (1, 1)))
        self.check(TWO, asks, ("roof", (1, 1, 2), (3, 1, 2)))
        self.check(TWO, asks, ("low", ONE), False)
        self.check(TWO, asks, ("low", pair(1 - TINY)))
        self.check(TWO, asks, ("climbs", (0, 1), (1, 1)), False)

    def test_made_ones(self):
        maker = Maker(132)
        told = []
        for _ in range(500):
            head, asks = maker.task()
            jet = any_jet(head, asks)
            ask = maker.ask() if jet is None or maker.random.random() < 0.5 else maker.touched(jet)
            told.append(not entails(head, asks, (ask,)))
            self.check(head, asks, ask, told[-1])
        self.assertTrue(100 < told.count(True) < 450)

    def test_great_numbers(self):
        maker = Maker(133, 10 ** 30)
        for _ in range(40):
            head, asks = maker.task()
            ask = maker.ask()
            self.check(head, asks, ask, not entails(head, asks, (ask,)))


if __name__ == "__main__":
    unittest.main()
