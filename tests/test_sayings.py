"""spoutlines.sayings (points 23 and 24 of the document)."""

import unittest
from fractions import Fraction

from spoutlines.errors import InvalidAsk, InvalidAsks, NoJetFits
from spoutlines.fits import any_jet, how_many, weights
from spoutlines.places import place_of
from spoutlines.sayings import entails, kept_asks, needless_asks, say_the_same, status_of
from tests import oracle
from tests.oracle import BIT, Maker, highest_jets, number, pair
from tests.samples import ASK_ROW, ASKS_ROW, HEAD_ROW, check_arguments, error_of, row_for

WALL, GATE, EAVES = ("over", (2, 1, 1)), ("under", (2, 1, 1)), ("roof", (1, 1, 1), (3, 1, 1))
LOFTY, LEVEL = ("over", (4, 3, 1)), ("dives", (2, 1), (0, 1))
TWO, GREAT = (2, 1), (10 ** 9, 1)


def place(distance, height):
    return place_of(pair(distance), pair(height))


def roof(near, near_height, far, far_height):
    return ("roof", place(near, near_height), place(far, far_height))


class StatusTest(unittest.TestCase):
    """Over the wall the head 2 lets the slopes from 1 up to 3, with bends from (1 + t * t) / 8 up to t / 2 - 1 / 4."""

    def check(self, head, asks, rows):
        for ask, word in rows:
            self.assertEqual(status_of(head, asks, ask), word, ask)

    def check_upward(self, head, asks, ask_for, least, greatest):
        """What asks for much, from the least number that comes up to the greatest one."""
        rows = [(least - 9, "sure"), (least - BIT, "sure"), (least, "sure"), (least + BIT, "open")]
        rows += [(greatest - BIT, "open"), (greatest, "open"), (greatest + BIT, "never"), (greatest + 9, "never")]
        self.check(head, asks, [(ask_for(value), word) for value, word in rows])

    def check_downward(self, head, asks, ask_for, least, greatest):
        """What asks for little."""
        rows = [(greatest + 9, "sure"), (greatest + BIT, "sure"), (greatest, "sure"), (greatest - BIT, "open")]
        rows += [(least + BIT, "open"), (least, "open"), (least - BIT, "never")]
        self.check(head, asks, [(ask_for(value), word) for value, word in rows])

    def test_heights(self):
        self.check_upward(TWO, (WALL,), lambda value: ("over", place(4, value)), -8, 0)
        self.check_downward(TWO, (WALL,), lambda value: ("under", place(4, value)), -8, 0)

    def test_slopes(self):
        for distance, least, greatest in (((0, 1), 1, 3), ((2, 1), -2, 0)):
            self.check_upward(TWO, (WALL,), lambda value: ("climbs", distance, pair(value)), least, greatest)
            self.check_downward(TWO, (WALL,), lambda value: ("dives", distance, pair(value)), least, greatest)

    def test_bends(self):
        least, greatest = Fraction(1, 4), Fraction(5, 4)
        self.check_downward(TWO, (WALL,), lambda value: ("quick", pair(value)), least, greatest)
        rows = [(least / 9, "sure"), (least, "sure"), (least + BIT, "open"), (greatest, "open"),
            (greatest + BIT, "never")]
        self.check(TWO, (WALL,), [(("slow", pair(value)), word) for value, word in rows])

    def test_surds_at_the_ends(self):
        # With the head 3 the slopes go up to 3 + root(5).
        below, above = Fraction(isqrt_of(5), 10 ** 30), Fraction(isqrt_of(5) + 1, 10 ** 30)
        rows = [(3 + above, "sure"), (3 + below, "open"), (3 - below, "open"), (3 - above, "never")]
        self.check((3, 1), (WALL,), [(("dives", (0, 1), pair(value)), word) for value, word in rows])

    def test_low(self):
        # Tops are up to 9 / 5 above the spout, at the slope 3, and from 1 on, at the slope 1.
        self.check_downward(TWO, (WALL,), lambda value: ("low", pair(value)), 1, Fraction(9, 5))

    def test_a_roof_touched_at_an_end_of_the_slopes(self):
        # Beyond 4 those with the slope 1 are the highest ones, up to 4 / 3 those with the slope 3.
        for bit, word in ((BIT, "sure"), (0, "sure"), (-BIT, "open")):
            rise = Fraction(-3, 2)
            far_one = roof(4 + Fraction(1, 2), Fraction(-5, 4) - rise / 2 + bit, 6, Fraction(-5, 4) + rise + bit)
            near_one = roof(Fraction(1, 2), Fraction(3, 2) + bit, Fraction(5, 4), Fraction(15, 8) + bit)
            self.check(TWO, (WALL,), [(far_one, word), (near_one, word)])

    def test_a_roof_touched_where_two_bounds_meet(self):
        # With the head 5 / 4 (2, 1) is the highest one under (1, 1) from the distance 1 up to 5 / 4.
        for bit, word in ((BIT, "sure"), (0, "sure"), (-BIT, "open")):
            told = roof(1, Fraction(65, 64) + bit, Fraction(5, 4), Fraction(61, 64) + bit)
            self.check((5, 4), (("under", (1, 1, 1)),), [(told, word)])

    def test_a_roof_touched_between(self):
        # The jet (2, 5 / 8) comes up to what all jets of the head 2 stay under, at the distance 2.
        for bit, word in ((BIT, "sure"), (0, "sure"), (-BIT, "open")):
            told = roof(1, 2 + bit, 3, 1 + bit)
            self.check(TWO, (WALL,), [(told, word)])
            self.check(TWO, (), [(told, word)])

    def test_roofs_that_no_jet_does(self):
        self.check(TWO, (WALL,),
            [(EAVES, "open"), (roof(1, 1 - BIT, 3, 1 - BIT), "never"), (roof(1, 0, 3, 0), "never")])
        self.check((3, 1), (WALL, ("climbs", (0, 1), (2, 1))), [(EAVES, "never")])

    def test_roofs_that_come_from_below_the_spout_and_from_it(self):
        # Beyond the wall those with the slope 1 are the highest ones, at -5 / 4 at the distance 5.
        for asks in ((WALL,), (WALL, GATE)):
            self.check(TWO, asks, [
                (roof(5, Fraction(-5, 4) + bit, 6, 10), word) for bit,
                    word in ((BIT, "sure"), (0, "sure"), (-BIT, "open"))])
            self.check(TWO, asks, [(roof(5, -15, 6, 10), "open"), (roof(5, -17, 6, 10), "never")])
        # 3 / 4 of the distance is touched by the arch at the distance 1, its begin.
        level = (WALL, EAVES)
        for bit, word in ((BIT, "sure"), (0, "sure"), (-BIT, "never")):
            rise = Fraction(3, 4) + bit
            self.check(TWO, level, [(roof(1, rise, 3, 3 * rise), word)])

    def test_endless_ranges(self):
        self.check(TWO, (), [
            (("low", (2, 1)), "sure"), (("low", pair(2 - BIT)), "open"), (("low", (1, 10 ** 9)), "open"),
            (("over", (4, 3, 2)), "open"), (("over", place(2, Fraction(3, 2) + BIT)), "never"),
            (("over", (2, -10 ** 9, 1)), "open"), (("under", (4, 3, 2)), "sure"), (("under", (2, -10 ** 9, 1)), "open"),
            (("dives", (0, 1), GREAT), "open"), (("climbs", (0, 1), (-10 ** 9, 1)), "open"), (("quick", GREAT), "open"),
            (("slow", GREAT), "open"), (("slow", (1, 8)), "sure"), (("quick", pair(Fraction(1, 8) - BIT)), "never"),
            (("dives", (2, 1), (0, 1)), "sure"), (("climbs", (2, 1), pair(BIT)), "never"),
            (roof(1, 9, 3, 9), "sure"), (roof(1, 1, 3, 1), "open"), (roof(1, -99, 3, -9999), "open")])
        # Beyond all slopes that are told one of these bounds is the greater one.
        self.check((1, 1), (), [(("low", (1, 1)), "sure")])
        self.check(TWO, (("low", (1, 1)),), [(("low", (1, 1)), "sure"), (("low", pair(1 - BIT)), "open")])

    def test_one_good_jet(self):
        # (2, 5 / 16), its top at 16 / 5.
        self.check((4, 1), (LOFTY,), [
            (LOFTY, "sure"), (("under", (4, 3, 1)), "sure"), (("under", place(4, 3 - BIT)), "never"),
            (("over", place(4, 3 + BIT)), "never"), (("low", (16, 5)), "sure"),
            (("low", pair(Fraction(16, 5) - BIT)), "never"), (("dives", (0, 1), (2, 1)), "sure"),
            (("climbs", (0, 1), (2, 1)), "sure"), (("climbs", (0, 1), pair(2 + BIT)), "never"),
            (("dives", (2, 1), (3, 4)), "sure"), (("dives", (2, 1), pair(Fraction(3, 4) - BIT)), "never"),
            (("quick", (5, 16)), "sure"), (("slow", (5, 16)), "sure"), (("slow", pair(Fraction(5, 16) + BIT)), "never"),
            (roof(3, Fraction(16, 5), 5, Fraction(16, 5)), "sure"), (roof(3, 3, 5, 3), "never")])

    def test_made_ones(self):
        maker = Maker(41)
        told = []
        while len(told) < 500:
            head, asks = maker.task()
            jet = any_jet(head, asks)
            ask = maker.ask() if jet is None or maker.random.random() < 0.5 else maker.touched(jet)
            if jet is None:
                self.assertIs(error_of(status_of, head, asks, ask).__class__, NoJetFits)
                continue
            told.append(status_of(head, asks, ask))
            more = asks + (ask,)
            if told[-1] == "never":
                self.assertTrue(oracle.settles(head, more, weights(head, more)))
            else:
                self.assertTrue(oracle.is_good(any_jet(head, more), head, more))
            self.check_sure(head, asks, ask, told[-1] == "sure")
        for word in ("sure", "never", "open"):
            self.assertGreater(told.count(word), 40)

    def check_sure(self, head, asks, ask, is_sure):
        if ask[0] not in ("roof", "low"):
            # Those that miss it by a bit at least.
            missed = asks + (missed_ask(ask),)
            jet = any_jet(head, missed)
            self.assertIs(jet is None, is_sure, (head, asks, ask))
            right = oracle.settles(head, missed, weights(head, missed)) if is_sure else not oracle.does(jet, ask)
            self.assertTrue(right)
        elif is_sure:
            for jet in highest_jets(head, asks, 60):
                self.assertTrue(oracle.does(jet, ask), (head, asks, ask))
        else:
            jets = (jet for many in (60, 4000) for jet in highest_jets(head, asks, many))
            self.assertTrue(any(not oracle.does(jet, ask) for jet in jets), (head, asks, ask))

    def test_wrong_arguments(self):
        check_arguments(self, status_of, [HEAD_ROW, ASKS_ROW, ASK_ROW])

    def test_no_jet_fits_is_told_last(self):
        by_name = error_of(status_of, ask=GATE, asks=(WALL,), head=(1, 1))
        for error in (error_of(status_of, (1, 1), (WALL,), GATE), by_name):
            self.assertIs(error.__class__, NoJetFits)
        self.assertIs(error_of(status_of, (1, 1), (WALL,), (GATE,)).__class__, InvalidAsk)
        self.assertIs(error_of(status_of, (1, 1), (WALL, WALL, 5), GATE).__class__, InvalidAsks)

    def test_eight_asks_and_one_more(self):
        self.assertEqual(status_of(TWO, (WALL,) * 8, LEVEL), "sure")
        self.assertEqual(status_of(TWO, (WALL,) * 8, EAVES), "open")
        self.assertEqual(status_of(TWO, (WALL,) * 8, ("over", (1, 2, 1))), "never")


def isqrt_of(value):
    """The greatest whole number up to 10 ** 30 times the root."""
    return oracle.isqrt(value * 10 ** 60)


def missed_ask(ask):
    """An ask that a jet does just if it misses the other one by a bit at least."""
    word = ask[0]
    if word in ("over", "under"):
        distance, height = oracle.distance_and_height(ask[1])
        return ("under", place(distance, height - BIT)) if word == "over" else ("over", place(distance, height + BIT))
    if word in ("dives", "climbs"):
        bit, other = (BIT, "climbs") if word == "dives" else (-BIT, "dives")
        return (other, ask[1], pair(number(ask[2]) + bit))
    return ("slow", pair(number(ask[1]) + BIT)) if word == "quick" else ("quick", pair(number(ask[1]) - BIT))


class NeedlessTest(unittest.TestCase):

    def test_needless_and_kept(self):
        self.assertEqual(needless_asks(TWO, (WALL, LEVEL)), (1,))
        self.assertEqual(needless_asks(TWO, (LEVEL, WALL)), (0,))
        self.assertEqual(kept_asks(TWO, (WALL, LEVEL)), (0,))
        self.assertEqual(kept_asks(TWO, (LEVEL, WALL)), (1,))

    def test_no_asks(self):
        self.assertEqual((needless_asks(TWO, ()), kept_asks(TWO, ())), ((), ()))

    def test_told_twice(self):
        self.assertEqual(needless_asks(TWO, (WALL, GATE, WALL)), (0, 2))
        self.assertEqual(kept_asks(TWO, (WALL, GATE, WALL)), (0, 1))
        self.assertEqual(kept_asks(TWO, (WALL,) * 8), (0,))
        self.assertEqual(needless_asks(TWO, (WALL,) * 8), (0, 1, 2, 3, 4, 5, 6, 7))

    def test_what_the_head_does_already(self):
        high = ("under", (4, 3, 2))
        self.assertEqual((needless_asks(TWO, (high,)), kept_asks(TWO, (high,))), ((0,), ()))
        self.assertEqual((needless_asks((3, 1), (high,)), kept_asks((3, 1), (high,))), ((), (0,)))

    def test_no_jet_is_good(self):
        # The wall alone leaves none: what else is asked is needless, and the wall too if the rest leaves none.
        self.assertEqual(needless_asks((1, 1), (GATE, WALL)), (0,))
        self.assertEqual(needless_asks((1, 1), (LOFTY, GATE, WALL)), (0, 1, 2))
        self.assertEqual(kept_asks((1, 1), (LOFTY, GATE, WALL)), (0,))
        self.assertEqual(kept_asks((1, 1), (WALL, GATE, LOFTY)), (0,))
        low = ("under", (2, 1, 2))
        self.assertEqual(needless_asks(TWO, (EAVES, WALL, low)), (0,))
        self.assertEqual(kept_asks(TWO, (EAVES, WALL, low)), (1, 2))

    def test_two_of_which_one_is_needed(self):
        # With the head 2 each of both leaves one jet over the wall.
        asks = (EAVES, WALL, ("low", (1, 1)))
        self.assertEqual(needless_asks(TWO, asks), (0, 2))
        self.assertEqual(kept_asks(TWO, asks), (0, 1))
        self.assertEqual(kept_asks(TWO, (asks[2], asks[1], asks[0])), (0, 1))

    def test_made_ones(self):
        maker = Maker(42)
        kept_lengths = {}
        for _ in range(150):
            head, asks = maker.task()
            if asks and maker.random.random() < 0.3:
                asks = asks + asks[:1]
            needless, kept = needless_asks(head, asks), kept_asks(head, asks)
            self.assertEqual(needless, tuple([
                at for at in range(len(asks)) if say_the_same(head, asks, asks[:at] + asks[at + 1:])]))
            left = list(range(len(asks)))
            for at in reversed(range(len(asks))):
                rest = [one for one in left if one != at]
                if say_the_same(head, tuple([asks[one] for one in left]), tuple([asks[one] for one in rest])):
                    left = rest
            self.assertEqual(kept, tuple(left))
            chosen = tuple([asks[at] for at in kept])
            self.assertIs(say_the_same(head, chosen, asks), True)
            self.assertEqual(needless_asks(head, chosen), ())
            kept_lengths[len(kept)] = True
        self.assertGreater(len(kept_lengths), 3)

    def test_wrong_arguments(self):
        for function in (needless_asks, kept_asks):
            check_arguments(self, function, [HEAD_ROW, ASKS_ROW])


class EntailsTest(unittest.TestCase):

    def test_both_ways_round(self):
        self.assertIs(entails(TWO, (WALL,), (LEVEL,)), True)
        self.assertIs(entails(TWO, (LEVEL,), (WALL,)), False)
        self.assertIs(say_the_same(TWO, (WALL,), (LEVEL,)), False)
        self.assertIs(say_the_same(TWO, (LEVEL,), (WALL,)), False)
        self.assertIs(say_the_same(TWO, (WALL,), (LEVEL, WALL)), True)
        self.assertIs(say_the_same(TWO, (LEVEL, WALL), (WALL,)), True)
        # By touching: one jet is good for both.
        self.assertIs(say_the_same(TWO, (WALL, EAVES), (("over", (2, 1, 1)), ("low", (1, 1)))), True)
        self.assertIs(say_the_same(pair(2 + BIT), (WALL, EAVES), (WALL, ("low", (1, 1)))), True)
        self.assertIs(say_the_same((3, 1), (EAVES,), (("low", (1, 1)),)), False)
        self.assertIs(entails((3, 1), (("low", (1, 1)),), (EAVES,)), True)

    def test_the_head_counts(self):
        self.assertIs(entails(pair(2 + BIT), (WALL,), (LEVEL,)), False)
        self.assertIs(entails(TWO, (), (("under", (4, 3, 2)),)), True)
        self.assertIs(entails((3, 1), (), (("under", (4, 3, 2)),)), False)

    def test_no_asks(self):
        self.assertIs(entails(TWO, (WALL,), ()), True)
        self.assertIs(entails(TWO, (), (WALL,)), False)
        self.assertIs(say_the_same(TWO, (), ()), True)
        self.assertIs(say_the_same(TWO, (), (("low", (2, 1)),)), True)

    def test_no_jet_is_good_for_one_of_them(self):
        self.assertIs(entails((1, 1), (WALL,), (GATE, EAVES)), True)
        self.assertIs(entails((1, 1), (GATE, EAVES), (WALL,)), False)
        self.assertIs(say_the_same((1, 1), (WALL,), (GATE,)), False)
        self.assertIs(say_the_same((1, 1), (GATE,), (WALL,)), False)
        self.assertIs(say_the_same((1, 1), (WALL,), (LOFTY, GATE)), True)
        self.assertIs(entails((1, 1), (WALL,), (WALL, LOFTY)), True)

    def test_made_ones(self):
        maker = Maker(43)
        told = []
        for _ in range(300):
            head, asks = maker.task()
            others = maker.asks(2)
            if asks and maker.random.random() < 0.5:
                others = asks[1:] + others[:1]
            statuses = ["sure"] if any_jet(head, asks) is None else [status_of(head, asks, ask) for ask in others]
            told.append(entails(head, asks, others))
            self.assertIs(told[-1], all([word == "sure" for word in statuses]))
            self.assertIs(say_the_same(head, asks, others), told[-1] and entails(head, others, asks))
            if told[-1] and how_many(head, asks) != "none":
                self.assertTrue(oracle.is_good(any_jet(head, asks), head, others))
        self.assertTrue(30 < told.count(True) < 270)

    def test_wrong_arguments(self):
        for function in (entails, say_the_same):
            check_arguments(self, function, [HEAD_ROW, ASKS_ROW, row_for("other", ASKS_ROW)])
        self.assertIs(error_of(entails, (1, 1), (WALL,), WALL).index, 0)


if __name__ == "__main__":
    unittest.main()
