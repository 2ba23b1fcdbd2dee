"""spoutlines.sweeps (points 38 and 39 of the document)."""

import unittest
from fractions import Fraction

from spoutlines.asks import grown_ask, is_good
from spoutlines.errors import InvalidAsks, InvalidFraction, InvalidGround, InvalidJet
from spoutlines.grounds import ground_word, strike_edge
from spoutlines.jets import grown_jet, head_of
from spoutlines.numbers import compare, is_surd, surd_plus, surd_times
from spoutlines.places import grown, place_of
from spoutlines.sweeps import jet_between, shares_good, shares_wet, swept_edges, swept_words
from tests import oracle
from tests.oracle import BIT, Maker, number, number_below, pair
from tests.samples import (
    ASKS_ROW, BELOW_ZERO, GROUND_ROW, HEAD_ROW, JET_ROW, LONG, NO_FRACTIONS, PLACE_ROW, YARD, check_arguments, error_of,
    row_for,
)

ZERO, ONE, TWO = (0, 1), (1, 1), (2, 1)
LOW, HIGH, ARCH = ((1, 1), (1, 2)), ((3, 1), (5, 2)), ((1, 1), (1, 4))
WALL = ("over", (2, 1, 1))
OTHER_ROW = row_for("other", JET_ROW)
ALL = (((0, 1), 0, (0, 1)), ((1, 1), 0, (0, 1)))


def jet(slope, bend):
    return (pair(slope), pair(bend))


def place(distance, height):
    return place_of(pair(distance), pair(height))


def just(value):
    return (pair(value), 0, (0, 1))


def back(told):
    """A pair of shares, as surds or as fractions, for the way back."""
    if told is None:
        return None
    if len(told[0]) == 2:
        return tuple([pair(1 - number(share)) for share in told[::-1]])
    return tuple([surd_plus(surd_times(share, (-1, 1)), (1, 1)) for share in told[::-1]])


class BetweenTest(unittest.TestCase):

    def test_jets_between(self):
        rows = [(ZERO, LOW), (ONE, HIGH), ((1, 2), jet(2, Fraction(3, 2))), ((1, 4), jet(Fraction(3, 2), 1)),
            ((1, 3), jet(Fraction(5, 3), Fraction(7, 6)))]
        for share, told in rows:
            self.assertEqual(jet_between(LOW, HIGH, share), told)
            self.assertEqual(jet_between(HIGH, LOW, pair(1 - number(share))), told)
            self.assertEqual(jet_between(told, told, share), told)

    def test_heights_go_straight(self):
        maker = Maker(101)
        for _ in range(100):
            one, other, distance = maker.jet(), maker.jet(), number(maker.above_zero())
            share = Fraction(maker.random.randint(0, 12), 12)
            heights = [oracle.height(each, distance) for each in (one, other)]
            self.assertEqual(
                oracle.height(jet_between(one, other, pair(share)), distance),
                heights[0] + share * (heights[1] - heights[0]))

    def test_wrong_arguments(self):
        shares = NO_FRACTIONS + BELOW_ZERO + [(-1, 10 ** 12), (3, 2), (2, 1), pair(1 + BIT), (10 ** 400, 1)]
        check_arguments(self, jet_between, [JET_ROW, OTHER_ROW, ("fraction", (1, 2), InvalidFraction, shares)])


class WetTest(unittest.TestCase):

    def check(self, one, other, at, told):
        self.assertEqual(shares_wet(one, other, at), told, at)
        self.assertEqual(shares_wet(other, one, at), back(told), at)

    def test_at_one(self):
        # At 2 the jets from LOW to HIGH are - 4 * r high.
        for height, share in ((0, 0), (-1, Fraction(1, 4)), (-3, Fraction(3, 4)), (-4, 1), (-BIT, BIT / 4)):
            self.check(LOW, HIGH, place(2, height), (pair(share), pair(share)))

    def test_at_none(self):
        for height in (BIT, 1, -4 - BIT, -9):
            self.check(LOW, HIGH, place(2, height), None)
        for height in (0, Fraction(1, 2) + BIT, Fraction(1, 2) - BIT):
            self.check(LOW, HIGH, place(1, height), None)

    def test_at_all(self):
        self.check(LOW, HIGH, place(1, Fraction(1, 2)), (ZERO, ONE))
        self.check(ARCH, ARCH, place(2, 1), (ZERO, ONE))
        self.check(ARCH, ARCH, place(2, 1 + BIT), None)

    def test_made_ones(self):
        maker = Maker(102)
        told = []
        for _ in range(300):
            one, other, at = maker.jet(), maker.jet(), maker.place()
            if maker.random.random() < 0.5:
                share = Fraction(maker.random.randint(-2, 14), 12)
                near = number(maker.above_zero())
                heights = [oracle.height(each, near) for each in (one, other)]
                at = place(near, heights[0] + share * (heights[1] - heights[0]))
            found = shares_wet(one, other, at)
            told.append(found is not None)
            distance, height = oracle.distance_and_height(at)
            for share in [Fraction(step, 12) for step in range(13)] + [number(end) for end in found or ()]:
                is_there = oracle.height(jet_between(one, other, pair(share)), distance) == height
                self.assertIs(is_there, found is not None and number(found[0]) <= share <= number(found[1]))
            over = [oracle.height(each, distance) - height for each in (one, other)]
            self.assertIs(found is None, over[0] * over[1] > 0)
            self.assertEqual(shares_wet(other, one, at), back(found))
        self.assertTrue(60 < told.count(True) < 240)

    def test_wrong_arguments(self):
        check_arguments(self, shares_wet, [JET_ROW, OTHER_ROW, PLACE_ROW])


class GoodTest(unittest.TestCase):

    def check(self, one, other, head, asks, told):
        self.assertEqual(shares_good(one, other, head, asks), told)
        self.assertEqual(shares_good(other, one, head, asks), back(told))

    def test_all(self):
        self.check(LOW, HIGH, ONE, (("over", (2, 1, 2)),), ALL)
        self.check(LOW, HIGH, ONE, (), ALL)
        self.check(LOW, HIGH, ONE, (("over", (2, 1, 2)),) * 8, ALL)
        self.check(ARCH, ARCH, TWO, (WALL, ("under", (2, 1, 1)), ("low", ONE)), ALL)

    def test_none(self):
        self.check(LOW, HIGH, (4, 5), (), None)
        self.check(LOW, HIGH, ONE, (WALL,), None)
        self.check(LOW, HIGH, ONE, (("slow", (3, 1)),), None)
        self.check(ARCH, ARCH, (19, 10), (), None)
        self.check(ARCH, ARCH, TWO, (("over", place(2, 1 + BIT)),), None)
        # Two asks that leave stretches apart, and an upright ask beside the slopes on the way.
        self.check(LOW, HIGH, ONE, (("quick", ONE), ("climbs", ZERO, (3, 1))), None)
        self.check(LOW, HIGH, ONE, (("dives", ZERO, (1, 2)),), None)

    def test_one(self):
        self.check(LOW, HIGH, ONE, (("over", (2, 0, 1)),), (just(0), just(0)))
        self.check(LOW, HIGH, ONE, (("under", (2, -4, 1)),), (just(1), just(1)))
        self.check(LOW, HIGH, ONE, (("over", (2, -1, 1)), ("under", (2, -1, 1))), (just(Fraction(1, 4)),) * 2)
        self.check(LOW, HIGH, ONE, (("dives", ZERO, (2, 1)), ("climbs", ZERO, (2, 1))), (just(Fraction(1, 2)),) * 2)
        self.check(LOW, HIGH, ONE, (("quick", (3, 2)), ("slow", (3, 2))), (just(Fraction(1, 2)),) * 2)
        # The head of (1 + 2 * r, 1 / 2 + 2 * r) is least where 4 * r * r + 2 * r is 1 / 2: by a head that is a surd
        # none is just reached; of these, (r, 1 / 2), 1 / 2 is.
        self.check(jet(-1, Fraction(1, 2)), jet(1, Fraction(1, 2)), (1, 2), (), (just(Fraction(1, 2)),) * 2)
        self.check(jet(-1, Fraction(1, 2)), jet(1, Fraction(1, 2)), pair(Fraction(1, 2) - BIT), (), None)

    def test_a_stretch_with_surds(self):
        self.check(LOW, HIGH, (9, 10), (), (((2, 5), -1, (11, 100)), ((2, 5), 1, (11, 100))))

    def test_a_stretch_with_fractions(self):
        self.check(LOW, HIGH, ONE, (("over", (2, -2, 1)), ("under", (2, -1, 1))),
            (just(Fraction(1, 4)), just(Fraction(1, 2))))
        self.check(LOW, HIGH, ONE, (("climbs", ZERO, (3, 2)),), (just(Fraction(1, 4)), just(1)))
        self.check(LOW, HIGH, ONE, (("dives", ZERO, (3, 2)),), (just(0), just(Fraction(1, 4))))
        self.check(LOW, HIGH, ONE, (("dives", (2, 1), (-5, 1)),), (just(Fraction(2, 3)), just(1)))
        self.check(LOW, HIGH, (5, 4), (("slow", ONE), ("quick", TWO)), (just(Fraction(1, 4)), just(Fraction(3, 4))))

    def test_one_fraction_and_one_surd(self):
        self.check(LOW, HIGH, (9, 10), (("quick", ONE),), (((2, 5), -1, (11, 100)), just(Fraction(1, 4))))

    def test_the_same_slope(self):
        # Bends from 1 / 4 up to 9 / 4 with the slope 1: the head 1 from 1 / 2 on.
        one, other = jet(1, Fraction(1, 4)), jet(1, Fraction(9, 4))
        self.check(one, other, ONE, (), (just(Fraction(1, 8)), just(1)))
        self.check(one, other, ONE, (("quick", ONE),), (just(Fraction(1, 8)), just(Fraction(3, 8))))
        self.check(one, other, ONE, (("quick", (1, 2)),), (just(Fraction(1, 8)),) * 2)
        self.check(one, other, ONE, (("quick", (1, 3)),), None)
        self.check(one, other, (1, 9), (), None)
        self.check(one, other, TWO, (WALL,), (just(0), just(0)))
        self.check(one, other, ONE, (("climbs", ZERO, ONE),), (just(Fraction(1, 8)), just(1)))
        self.check(one, other, ONE, (("climbs", ZERO, pair(1 + BIT)),), None)
        self.check(one, other, ONE, (("dives", ZERO, pair(1 - BIT)),), None)
        self.check(one, other, ONE, (("low", (1, 4)),), (just(Fraction(3, 8)), just(1)))

    def test_the_same_bend(self):
        # Slopes from - 1 up to 3 with the bend 1 / 2: the head 1 up to 1, from - 1 on.
        one, other = jet(-1, Fraction(1, 2)), jet(3, Fraction(1, 2))
        self.check(one, other, ONE, (), (just(0), just(Fraction(1, 2))))
        self.check(one, other, (9, 1), (("low", (2, 1)),), (just(0), just(Fraction(3, 4))))
        self.check(one, other, (9, 1), (("low", (1, 1)),), (just(0), ((1, 4), 1, (1, 8))))

    def test_roofs(self):
        # With an arc, above the spout: at 2 on the way from - 1 / 2 to 3 / 2 it is touched at the slope 1.
        eaves = ("roof", (1, 1, 1), (3, 1, 1))
        self.check(jet(0, Fraction(1, 4)), jet(2, Fraction(1, 4)), (9, 1), (eaves,), (just(0), just(Fraction(1, 2))))
        # At its begin the steep ones come up to it, at its end the flat ones.
        self.check(jet(2, 1), jet(4, 1), (9, 1), (eaves,), (just(0), just(0)))
        self.check(jet(0, Fraction(1, 9)), jet(1, Fraction(1, 9)), (9, 1), (eaves,), (just(0), just(Fraction(2, 3))))
        # Without an arc: 1 / 2 below the spout at 1, and 3 / 2 at 3, so along the slope - 1 / 2.
        gutter = ("roof", (2, -1, 2), (6, -3, 2))
        self.check(jet(-1, Fraction(1, 2)), jet(3, Fraction(1, 2)), (9, 1), (gutter,), (just(0), just(Fraction(1, 4))))

    def test_made_ones(self):
        maker = Maker(103)
        told = {"none": 0, "one": 0, "all": 0, "surds": 0, "fractions": 0}
        for _ in range(500):
            head, asks = maker.task()
            one, other = self.made_way(maker)
            if maker.random.random() < 0.5:
                middle = jet_between(one, other, pair(Fraction(maker.random.randint(0, 6), 6)))
                head = head_of(middle)
                if maker.random.random() < 0.5:
                    head = pair(number(head) + 1)
                asks = tuple([maker.touched(middle) for _ in range(maker.random.randint(0, 2))])
            found = shares_good(one, other, head, asks)
            self.assertEqual(shares_good(other, one, head, asks), back(found))
            told[self.kind_of(found)] += 1
            self.check_shares(one, other, head, asks, found)
        self.assertGreater(min(told.values()), 15)

    def made_way(self, maker):
        one, other = maker.jet(), maker.jet()
        kind = maker.random.random()
        if kind < 0.1:
            return one, one
        if kind < 0.25:
            return one, (one[0], other[1])
        return one, (other[0], one[1]) if kind < 0.4 else other

    def kind_of(self, found):
        if found is None:
            return "none"
        if found[0] == found[1]:
            return "one"
        if found == ALL:
            return "all"
        return "surds" if found[0][1] or found[1][1] else "fractions"

    def check_shares(self, one, other, head, asks, found):
        ends = []
        for share in found or ():
            self.assertTrue(is_surd(share))
            self.assertTrue(compare(ALL[0], share) <= 0 and compare(share, ALL[1]) <= 0)
            ends += [number_below(share) + bit for bit in (-BIT, 0, BIT)]
        for share in sorted(ends + [Fraction(step, 24) for step in range(25)]):
            if 0 <= share <= 1:
                is_among = found is not None and compare(found[0], just(share)) <= 0 <= compare(found[1], just(share))
                between = jet_between(one, other, pair(share))
                self.assertIs(oracle.is_good(between, head, asks), is_among, (one, other, head, asks, share))
                self.assertIs(is_good(between, head, asks), is_among)

    def test_grown(self):
        maker = Maker(104)
        for _ in range(60):
            head, asks = maker.task()
            one, other, factor = maker.jet(), maker.jet(), maker.above_zero()
            more = tuple([grown_ask(ask, factor) for ask in asks])
            head_grown = pair(number(head) * number(factor))
            self.assertEqual(
                shares_good(grown_jet(one, factor), grown_jet(other, factor), head_grown, more),
                shares_good(one, other, head, asks))
            at = maker.place()
            self.assertEqual(
                shares_wet(grown_jet(one, factor), grown_jet(other, factor), grown(at, factor)),
                shares_wet(one, other, at))

    def test_great_numbers(self):
        maker = Maker(105, 10 ** 30)
        for _ in range(40):
            head, asks = maker.task()
            one, other = maker.jet(), maker.jet()
            self.check_shares(one, other, head, asks, shares_good(one, other, head, asks))

    def test_wrong_arguments(self):
        check_arguments(self, shares_good, [JET_ROW, OTHER_ROW, HEAD_ROW, ASKS_ROW])
        self.assertIs(error_of(shares_good, ARCH, ARCH, ONE, (WALL,) * 9).__class__, InvalidAsks)
        self.assertIs(error_of(shares_good, ARCH, ((1, 1), (0, 1)), ONE, ()).__class__, InvalidJet)


class SweptTest(unittest.TestCase):

    def check(self, one, other, ground, words, edges):
        for begin, end in ((one, other), (other, one)):
            self.assertEqual(swept_words(begin, end, ground), words)
            self.assertEqual(swept_edges(begin, end, ground), edges)

    def test_of_the_yard(self):
        self.check(LOW, HIGH, YARD, ("strikes",), (0, 1))
        self.check(LOW, ((0, 1), (1, 4)), YARD, ("short", "strikes"), (0, 1))
        self.check(LOW, ((2, 1), (1, 2)), YARD, ("strikes", "past"), (1,))
        self.check(ARCH, ARCH, YARD, ("strikes",), (1,))

    def check_between(self, one, other, ground, words, edges):
        """At the ends the jet has the first and the last of the words, and strikes no edge but the first and last."""
        self.check(one, other, ground, words, edges)
        self.assertEqual({ground_word(each, ground) for each in (one, other)}, {words[0], words[-1]})
        ends = {strike_edge(each, ground) for each in (one, other)} - {None}
        self.assertTrue(ends <= {edges[0], edges[-1]} and len(ends) < len(edges))

    def test_what_neither_end_has(self):
        # From being short to being past, over all edges.
        low, high = jet(0, Fraction(1, 2)), jet(4, Fraction(1, 2))
        self.check_between(low, high, LONG[:4], ("short", "strikes", "past"), (0, 1, 2))
        self.check_between(low, high, LONG[:8], ("short", "strikes", "past"), (0, 1, 2, 3, 4, 5, 6))
        # From striking the first edge to striking the last one.
        self.check_between(jet(1, Fraction(2, 3)), jet(4, Fraction(2, 3)), LONG[:7], ("strikes",), (0, 1, 2, 3, 4, 5))
        # From striking the edge 1 to being past, over the edge 2.
        self.check_between(jet(1, Fraction(2, 5)), jet(2, Fraction(2, 5)), LONG[:4], ("strikes", "past"), (1, 2))

    def test_what_both_ends_have(self):
        # Between two jets that are past, or short, or strike an edge, all are, or do.
        one, other = jet(1, Fraction(1, 4)), jet(3, Fraction(5, 4))
        ground = (place(Fraction(1, 2), Fraction(7, 16)), place(1, 0), place(3, Fraction(-9, 4)))
        self.check(one, other, ground, ("past",), ())
        self.check(one, other, ((2, 0, 1), (5, 0, 1)), ("strikes",), (0,))
        self.check(one, other, ((1, 3, 1), (5, 0, 1)), ("short",), ())

    def test_touching_at_one_share(self):
        # Past at one share alone, where one corner is touched and then another one.
        one, other = jet(1, Fraction(1, 4)), jet(3, Fraction(5, 4))
        self.check(one, other, (place(1, Fraction(3, 4)), place(3, Fraction(3, 4))), ("strikes", "past"), (0,))
        # From 3 / 4 up to 7 / 4 over 1, from 3 / 4 down to - 9 / 4 over 3: at the share 1 / 2 they are 5 / 4, - 3 / 4.
        ground = (place(1, Fraction(5, 4)), place(3, Fraction(-3, 4)))
        self.check(one, other, ground, ("short", "strikes", "past"), (0,))
        self.check(one, other, (ground[0], place(3, Fraction(-3, 4) + BIT)), ("short", "strikes"), (0,))
        self.check(one, other, (ground[0], place(3, -9)), ("short", "past"), ())
        # The share 1 / 2 alone strikes the edge, at its begin.
        ground = (place(1, Fraction(5, 4)), place(2, 1), place(3, Fraction(-3, 4)), place(4, -1))
        self.check(one, jet(2, Fraction(3, 4)), ground, ("short", "strikes"), (2,))

    def test_a_corner_over_which_all_are_as_high(self):
        # At 1 all jets from LOW to HIGH are 1 / 2 high, at 2 from 0 down to - 4.
        low = place(Fraction(1, 2), -9)
        touched = place(1, Fraction(1, 2))
        self.check(LOW, HIGH, (low, touched), ("past",), ())
        self.check(LOW, HIGH, (low, touched, (2, -2, 1)), ("strikes", "past"), (1,))
        self.check(LOW, HIGH, (touched, (2, -9, 1)), ("past",), ())
        for height in (Fraction(1, 2) + BIT, 9):
            self.check(LOW, HIGH, (low, place(1, height)), ("strikes",), (0,))
            self.check(LOW, HIGH, (low, place(1, height), (2, -2, 1)), ("strikes",), (0,))
            self.check(LOW, HIGH, (place(1, height), (2, -9, 1)), ("short",), ())

    def test_short_everywhere(self):
        self.check(LOW, HIGH, ((1, 9, 1), (2, 9, 1)), ("short",), ())

    def test_made_ones(self):
        maker = Maker(106)
        told, between = {}, 0
        for _ in range(800):
            one, other = maker.jet(), maker.jet()
            ground = self.made_ground(maker, one, other)
            words, edges = swept_words(one, other, ground), swept_edges(one, other, ground)
            found_words, found_edges = set(), set()
            for share in self.shares(one, other, ground):
                jet_there = jet_between(one, other, pair(share))
                found_words.add(ground_word(jet_there, ground))
                found_edges.add(strike_edge(jet_there, ground))
            self.assertEqual(words, tuple([word for word in ("short", "strikes", "past") if word in found_words]))
            self.assertEqual(edges, tuple(sorted(found_edges - {None})), (one, other, ground))
            told[words] = True
            between += set(edges) > {strike_edge(one, ground), strike_edge(other, ground)}
            self.assertEqual(swept_words(other, one, ground), words)
            self.assertEqual(swept_edges(other, one, ground), edges)
            tall, factor = [], maker.above_zero()
            for corner in ground:
                tall.append(grown(corner, factor))
            ends = [grown_jet(each, factor) for each in (one, other)]
            self.assertEqual(swept_words(*ends, tuple(tall)), words)
            self.assertEqual(swept_edges(*ends, tuple(tall)), edges)
        self.assertEqual(len(told), 7)
        self.assertGreater(between, 1)

    def made_ground(self, maker, one, other):
        distance, corners = Fraction(0), []
        middle = jet_between(one, other, pair(Fraction(maker.random.randint(0, 4), 4)))
        for _ in range(maker.random.randint(2, 8)):
            distance += number(maker.above_zero()) / 3
            height = oracle.height(middle, distance) + maker.random.choice((0, 0, number(maker.fraction()) / 4))
            corners.append(place(distance, height))
        return tuple(corners)

    def shares(self, one, other, ground):
        """The shares at which a corner is touched, and some between each two neighbouring ones, and the ends."""
        found = {Fraction(0), Fraction(1)}
        for corner in ground:
            distance, height = oracle.distance_and_height(corner)
            begin, end = [oracle.height(each, distance) - height for each in (one, other)]
            if begin != end and 0 <= begin / (begin - end) <= 1:
                found.add(begin / (begin - end))
        told = sorted(found)
        return told + [(low + high) / 2 for low, high in zip(told, told[1:])]

    def test_wrong_arguments(self):
        for function in (swept_words, swept_edges):
            check_arguments(self, function, [JET_ROW, OTHER_ROW, GROUND_ROW])
            self.assertIs(error_of(function, ARCH, ARCH, YARD[:1]).__class__, InvalidGround)


if __name__ == "__main__":
    unittest.main()
