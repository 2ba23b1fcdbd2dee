"""spoutlines.fits (points 18 to 21 of the document)."""

import unittest
from fractions import Fraction
from itertools import combinations, permutations
from math import isqrt

from spoutlines.fits import any_jet, barred, how_many, is_paper, weights
from spoutlines.jets import head_of, height_at, is_jet
from spoutlines.numbers import is_fraction
from spoutlines.places import place_of
from tests import oracle
from tests.oracle import Maker, number, pair
from tests.samples import ASKS, ASKS_ROW, HEAD_ROW, STRANGE, check_arguments

ARCH = ((1, 1), (1, 4))
WALL, GATE, EAVES = ("over", (2, 1, 1)), ("under", (2, 1, 1)), ("roof", (1, 1, 1), (3, 1, 1))
LOFTY = ("over", (4, 3, 1))
GREAT = (10 ** 9, 1)
BIT = Fraction(1, 10 ** 30)

# Heads and asks for which no jet is good, by what shows it.
A_LINE_TOO_LOW = {
    "head, over": ((1, 1), (WALL,)),
    "head, climbs": ((1, 1), (("climbs", (1, 1), (2, 1)),)),
    "head, quick": ((1, 1), (("quick", (1, 5)),)),
    "under, over": (GREAT, (("under", (4, 1, 2)), ("over", (4, 3, 2)))),
    "slow, quick": (GREAT, (("quick", (1, 1)), ("slow", (2, 1)))),
    "dives, climbs": (GREAT, (("dives", (2, 1), (0, 1)), ("climbs", (2, 1), (1, 1)))),
    "under, climbs": (GREAT, (("under", (2, -1, 1)), ("climbs", (1, 1), (0, 1)))),
    "dives, over": (GREAT, (("dives", (1, 1), (-1, 1)), ("over", (2, -1, 1)))),
    "roof at its begin, over": (GREAT, (EAVES, ("over", (2, 3, 2)))),
    "roof within, over": (GREAT, (EAVES, ("over", (4, 3, 2)))),
    "roof at its end, over": (GREAT, (EAVES, ("over", (6, 3, 2)))),
    "roof from below the spout, over": (GREAT, (("roof", (1, -1, 1), (2, 0, 1)), ("over", (2, 1, 1)))),
    "roof within, climbs": (GREAT, (EAVES, ("climbs", (1, 1), (2, 1)))),
    "low, over": (GREAT, (("low", (1, 1)), ("over", (5, 2, 1)))),
    "low, climbs": (GREAT, (("low", (1, 1)), ("climbs", (1, 1), (3, 1)))),
}
STRETCHES_APART = {
    "head, over, over": ((2, 1), (("over", (4, 0, 1)), ("over", (2, 3, 2)))),
    "under, over, over": (GREAT, (("over", (1, 1, 1)), ("under", (2, 1, 1)), ("over", (3, 1, 1)))),
    "roof, quick, over": (GREAT, (("roof", (1, 0, 1), (2, -1, 1)), ("over", (4, -1, 1)), ("quick", (1, 9)))),
    "roof from below the spout, over within": (GREAT, (("roof", (1, -2, 1), (3, 0, 1)), ("over", (2, 0, 1)))),
    "roof from the spout, over": (GREAT, (("roof", (1, 1, 1), (3, 3, 1)), ("over", (2, 3, 1)))),
    "roof within, over, over": ((5, 1), (EAVES, ("over", (2, 1, 2)), ("over", (5, 3, 2)))),
    "low, over, over": ((50, 1), (("low", (1, 1)), ("over", (1, 4, 5)), ("over", (9, 1, 2)))),
    "low, quick, over": (GREAT, (("low", (1, 1)), ("quick", (1, 99)), ("over", (1, 4, 5)))),
    "head, over, slow": ((2, 1), (("over", (2, 1, 2)), ("slow", (9, 1)), ("quick", (9, 1)))),
}
UPRIGHT_AND_STRETCH = {
    "dives, head, over": ((2, 1), (("dives", (0, 1), (1, 2)), WALL)),
    "climbs, head, over": ((2, 1), (WALL, ("climbs", (0, 1), (7, 2)))),
    "dives, low, over": ((100, 1), (("low", (1, 1)), ("over", (2, 1, 2)), ("dives", (0, 1), (1, 2)))),
    "dives below 0, low, over": ((100, 1), (("low", (1, 1)), ("over", (2, 1, 2)), ("dives", (0, 1), (-1, 1)))),
    "dives far below 0, low, over": (
        (100, 1), (("low", (1, 1)), ("over", (2, -1, 1)), ("dives", (0, 1), (-3, 1)), ("over", (9, -1, 1)))),
    "climbs, roof, quick": (GREAT, (EAVES, ("quick", (1, 4)), ("climbs", (0, 1), (2, 1)))),
    "dives, under, over": (GREAT, (("dives", (0, 1), (-1, 1)), ("under", (2, 0, 1)), ("over", (1, 0, 1)))),
    "climbs, dives, quick": (GREAT, (("dives", (2, 1), (0, 1)), ("quick", (1, 4)), ("climbs", (0, 1), (3, 2)))),
}
UPRIGHTS_APART = {
    "dives, climbs": ((1, 1), (("dives", (0, 1), (1, 2)), ("climbs", (0, 1), (2, 3)))),
    "climbs, dives among others": (
        (1, 1), (("climbs", (0, 1), (5, 1)), ("low", (9, 1)), ("climbs", (0, 1), (6, 1)), ("dives", (0, 1), (-5, 1)))),
}
NONE_GOOD = {**A_LINE_TOO_LOW, **STRETCHES_APART, **UPRIGHT_AND_STRETCH, **UPRIGHTS_APART}


def at_arch(word, distance):
    return (word, place_of(distance, height_at(ARCH, distance)))


class HowManyTest(unittest.TestCase):

    def check_around(self, head, asks, words):
        """The words for heads just below, at, just above this one."""
        heads = [pair(number(head) + bit) for bit in (-BIT, 0, BIT)]
        self.assertEqual([how_many(one, asks) for one in heads], words)

    def test_no_asks(self):
        for head in ((1, 10 ** 9), (1, 1), GREAT):
            self.assertEqual(how_many(head, ()), "many")

    def test_one_by_its_own_head_and_a_place_where_those_of_the_head_end(self):
        self.check_around((4, 1), (LOFTY,), ["none", "one", "many"])
        self.check_around((2, 1), (("over", (4, 0, 1)), ("low", (1, 1))), ["none", "one", "many"])
        self.check_around((2, 1), (("over", (4, 0, 1)), at_arch("under", (1, 1))), ["none", "one", "many"])

    def test_one_by_its_slope_from_both_sides_and_its_head(self):
        sides = (("dives", (0, 1), (1, 1)), ("climbs", (0, 1), (1, 1)))
        self.check_around((2, 1), sides + (("quick", (1, 4)),), ["none", "one", "many"])
        self.check_around((2, 1), sides, ["many", "many", "many"])
        self.check_around((2, 1), sides + (("quick", (1, 4)), ("slow", (1, 4))), ["none", "one", "one"])

    def test_one_by_three_places(self):
        asks = (at_arch("over", (1, 1)), at_arch("under", (2, 1)), at_arch("over", (3, 1)))
        self.check_around((2, 1), asks, ["none", "one", "one"])
        self.assertEqual(how_many(GREAT, asks), "one")
        self.assertEqual(how_many(GREAT, asks[:2]), "many")
        asks = (at_arch("under", (1, 1)), at_arch("over", (2, 1)), at_arch("under", (3, 1)))
        self.assertEqual(how_many(GREAT, asks), "one")
        asks = (at_arch("over", (1, 1)), at_arch("over", (2, 1)), at_arch("under", (3, 1)))
        self.assertEqual(how_many(GREAT, asks), "many")

    def test_one_by_roofs(self):
        self.check_around((2, 1), (WALL, EAVES), ["none", "one", "one"])
        # It touches the roof from below at the distance 1, and so has its rise there.
        self.assertEqual(how_many(GREAT, (("roof", (1, 1, 2), (8, 5, 4)), at_arch("over", (1, 1)))), "one")

    def test_many_with_just_one_slope(self):
        sides = (("dives", (0, 1), (1, 1)), ("climbs", (0, 1), (1, 1)))
        self.assertEqual(how_many((3, 1), sides + (("quick", (1, 4)),)), "many")
        self.assertEqual(how_many((3, 1), sides + (("slow", (1, 4)),)), "many")

    def test_none(self):
        for name, (head, asks) in NONE_GOOD.items():
            self.assertEqual(how_many(head, asks), "none", name)

    def test_heads_around_the_one_that_is_needed(self):
        # Over (2, 1) with no slope above 3 / 2 the least head is 13 / 8.
        self.check_around((13, 8), (WALL, ("dives", (0, 1), (3, 2))), ["none", "one", "many"])

    def test_in_any_order_and_told_twice(self):
        for head in ((2, 1), (5, 2), (1, 1)):
            asks = (WALL, EAVES, ("dives", (0, 1), (3, 2)), ("low", (1, 1)))
            told = how_many(head, asks)
            for others in permutations(asks):
                self.assertEqual(how_many(head, others), told)
                self.assertEqual(how_many(head, others + others), told)

    def test_wrong_arguments(self):
        check_arguments(self, how_many, [HEAD_ROW, ASKS_ROW])


class AnyJetTest(unittest.TestCase):

    def check_good(self, head, asks):
        jet = any_jet(head, asks)
        self.assertTrue(is_jet(jet))
        self.assertTrue(oracle.is_good(jet, head, asks), (head, asks))
        return jet

    def test_no_asks(self):
        for head in ((1, 10 ** 9), (1, 1), GREAT):
            self.check_good(head, ())

    def test_just_one_is_good(self):
        places = (at_arch("over", (1, 1)), at_arch("under", (2, 1)), at_arch("over", (3, 1)))
        sides = (("dives", (0, 1), (1, 1)), ("climbs", (0, 1), (1, 1)), ("quick", (1, 4)))
        for head, asks in (((2, 1), places), (GREAT, places), ((2, 1), sides), ((2, 1), (WALL, EAVES))):
            self.assertEqual(any_jet(head, asks), ARCH)
        self.assertEqual(any_jet((4, 1), (LOFTY,)), ((2, 1), (5, 16)))

    def test_good_slopes_that_lie_close_together(self):
        for bit in (10 ** 9, 10 ** 60, 10 ** 390):
            head = (4 * bit + 1, bit)
            self.assertEqual(how_many(head, (LOFTY,)), "many")
            self.check_good(head, (LOFTY,))
            # Between two slopes told by fractions, and from a root up.
            self.check_good((9, 1), (("climbs", (0, 1), (1, 3)), ("dives", (0, 1), (bit + 3, 3 * bit))))
            # Over (1, 0) the head 3 / 2 lets the slopes from 3 - root(8) on.
            least = Fraction(3 * bit - isqrt(8 * bit * bit), bit)
            self.check_good((3, 2), (("over", (1, 0, 1)), ("dives", (0, 1), pair(least))))
            too_low = ("dives", (0, 1), pair(least - Fraction(1, bit)))
            self.assertIs(any_jet((3, 2), (("over", (1, 0, 1)), too_low)), None)

    def test_slopes_that_are_endless(self):
        for asks in ((), (GATE,), (("dives", (0, 1), (-10 ** 9, 1)),), (("climbs", (0, 1), (10 ** 30, 1)),)):
            self.check_good((1, 1), asks)

    def test_made_ones(self):
        maker = Maker(21)
        told = []
        for _ in range(500):
            head, asks = maker.task()
            told.append(how_many(head, asks))
            if told[-1] == "none":
                self.assertIs(any_jet(head, asks), None)
            else:
                self.check_good(head, asks)
        for word in ("none", "one", "many"):
            self.assertGreater(told.count(word), 40)

    def test_great_numbers(self):
        for unit in (10 ** 9, 10 ** 40):
            maker = Maker(22, unit)
            for _ in range(60):
                head, asks = maker.task()
                if how_many(head, asks) != "none":
                    jet = self.check_good(head, asks)
                    # What was returned may be passed on.
                    again = asks[:7] + (("quick", jet[1]),)
                    self.check_good(head_of(jet), again)

    def test_wrong_arguments(self):
        check_arguments(self, any_jet, [HEAD_ROW, ASKS_ROW])


class WeightsTest(unittest.TestCase):

    def check_paper(self, head, asks, name=None):
        paper = weights(head, asks)
        share, parts = paper
        self.assertTrue(is_fraction(share) and share[0] >= 0, name)
        self.assertTrue(isinstance(parts, tuple) and 1 <= len(parts) <= 4, name)
        for index, distance, weight in parts:
            self.assertIs(index.__class__, int)
            self.assertTrue(is_fraction(distance) and is_fraction(weight) and weight[0] > 0, name)
        self.assertTrue(oracle.settles(head, asks, paper), name)
        self.assertIs(is_paper(head, asks, paper), True)
        return paper

    def test_a_lower_bound_above_an_upper_one_at_all_slopes(self):
        for name, (head, asks) in A_LINE_TOO_LOW.items():
            share, parts = self.check_paper(head, asks, name)
            self.assertEqual(len(parts) + (share[0] > 0), 2, name)

    def test_distances_at_which_roofs_and_low_are_taken(self):
        for head, asks, right in (
                (GREAT, (EAVES, ("over", (4, 3, 2))), (2, 1)), (GREAT, (EAVES, ("climbs", (1, 1), (2, 1))), (2, 1)),
                (GREAT, (("low", (1, 1)), ("over", (5, 2, 1))), (5, 1))):
            _, parts = self.check_paper(head, asks)
            self.assertEqual([distance for index, distance, _ in parts if index == 0], [right])

    def test_two_stretches_that_lie_apart(self):
        for name, (head, asks) in STRETCHES_APART.items():
            self.check_paper(head, asks, name)

    def test_a_stretch_and_an_upright_ask(self):
        for name, (head, asks) in UPRIGHT_AND_STRETCH.items():
            self.check_paper(head, asks, name)

    def test_two_upright_asks(self):
        for name, (head, asks) in UPRIGHTS_APART.items():
            share, parts = self.check_paper(head, asks, name)
            self.assertEqual((share, len(parts)), ((0, 1), 2))

    def test_roofs_at_their_distances(self):
        head, asks = STRETCHES_APART["roof within, over, over"]
        _, parts = self.check_paper(head, asks)
        distances = [number(distance) for index, distance, _ in parts if index == 0]
        self.assertTrue(all([1 <= distance <= 3 for distance in distances]))

    def test_none_where_some_jet_is_good(self):
        for head, asks in (((1, 1), ()), ((2, 1), (WALL,)), ((2, 1), (WALL, EAVES)), ((4, 1), (LOFTY,))):
            self.assertIs(weights(head, asks), None)

    def test_made_ones(self):
        maker = Maker(23)
        lengths = {}
        for _ in range(600):
            head, asks = maker.task()
            if any_jet(head, asks) is None:
                share, parts = self.check_paper(head, asks, (head, asks))
                lengths[len(parts)] = lengths.get(len(parts), 0) + 1
            else:
                self.assertIs(weights(head, asks), None)
        self.assertEqual(sorted(lengths), [1, 2, 3, 4])

    def test_asks_touched_by_one_jet_that_is_not_let(self):
        maker = Maker(24)
        found = 0
        while found < 150:
            jet = maker.jet()
            asks = tuple([maker.touched(jet) for _ in range(maker.random.randint(1, 5))])
            head = pair(oracle.head(jet) * (1 - BIT))
            if how_many(head, asks) == "none":
                self.check_paper(head, asks, (head, asks))
                found += 1

    def test_great_numbers(self):
        for unit in (10 ** 9, 10 ** 60):
            maker = Maker(25, unit)
            for _ in range(100):
                head, asks = maker.task()
                if how_many(head, asks) == "none":
                    self.check_paper(head, asks)

    def test_wrong_arguments(self):
        check_arguments(self, weights, [HEAD_ROW, ASKS_ROW])


class IsPaperTest(unittest.TestCase):

    def changed(self, asks, paper):
        """Papers a little unlike this one, all of the form of papers."""
        share, parts = paper
        for bit in (Fraction(1), Fraction(1, 10 ** 9)):
            yield (pair(number(share) + bit), parts)
            for at, (index, distance, weight) in enumerate(parts):
                changed = [(index, distance, pair(number(weight) * (1 + bit)))]
                changed += [(other, distance, weight) for other in range(len(asks))]
                changed += [(index, pair(number(distance) + bit), weight), (index, (0, 1), weight)]
                for one in changed:
                    yield (share, parts[:at] + (one,) + parts[at + 1:])
                yield (share, parts + (parts[at],))
                yield (share, parts[:at] + parts[at + 1:])
        yield ((0, 1), parts)
        yield (pair(2 * number(share)), tuple([part[:2] + (pair(2 * number(part[2])),) for part in parts]))

    def test_papers_that_are_changed(self):
        told = []
        for head, asks in NONE_GOOD.values():
            for paper in self.changed(asks, weights(head, asks)):
                told.append(is_paper(head, asks, paper))
                self.assertIs(told[-1], oracle.settles(head, asks, paper), (head, asks, paper))
        self.assertGreater(told.count(False), 200)
        self.assertGreater(told.count(True), 20)

    def test_against_other_heads_and_asks(self):
        for head, asks in NONE_GOOD.values():
            for other_head, others in list(NONE_GOOD.values()) + [(head, asks[::-1]), ((1, 1), asks), (GREAT, asks)]:
                paper = weights(head, asks)
                if max([part[0] for part in paper[1]]) < len(others):
                    right = oracle.settles(other_head, others, paper)
                    self.assertIs(is_paper(other_head, others, paper), right)

    def test_an_index_may_come_more_than_once(self):
        part = (0, (0, 1), (1, 4))
        self.assertIs(is_paper((1, 1), (WALL,), ((1, 1), (part,) * 4)), True)
        part = (0, (0, 1), (1, 5))
        self.assertIs(is_paper((1, 1), (WALL,), ((1, 1), (part,) * 5)), False)

    def test_a_sum_that_comes_to_zero_is_not_below_it(self):
        # With the head 4 one jet is good, at which the sum is 0.
        self.assertIs(is_paper((4, 1), (LOFTY,), ((1, 1), ((0, (0, 1), (1, 1)),))), False)
        self.assertIs(is_paper((399, 100), (LOFTY,), ((100, 1), ((0, (0, 1), (399, 4)),))), True)
        same = (("dives", (0, 1), (1, 1)), ("climbs", (0, 1), (1, 1)))
        self.assertIs(is_paper((1, 1), same, ((0, 1), ((0, (0, 1), (1, 1)), (1, (0, 1), (1, 1))))), False)

    def test_a_sum_that_grows_is_none(self):
        asks = (("dives", (0, 1), (-1, 1)), ("climbs", (0, 1), (1, 1)))
        self.assertIs(is_paper((1, 1), asks, ((0, 1), ((0, (0, 1), (1, 1)), (1, (0, 1), (1, 1))))), True)
        self.assertIs(is_paper((1, 1), asks, ((0, 1), ((0, (0, 1), (1, 1)), (1, (0, 1), (1, 2))))), False)
        self.assertIs(is_paper((1, 1), asks, ((0, 1), ((0, (0, 1), (1, 1)),))), False)

    def test_values_of_any_kind(self):
        part, share = (0, (0, 1), (1, 1)), (1, 1)
        self.assertIs(is_paper((1, 1), (WALL,), (share, (part,))), True)
        for value in STRANGE:
            values = [value, (value, value), (value, (part,)), (share, value), (share, (value,))]
            values.append((share, (part, value)))
            for changed in ((value, (0, 1), (1, 1)), (0, value, (1, 1)), (0, (0, 1), value)):
                values.append((share, (changed,)))
            for one in values:
                self.assertIs(is_paper((1, 1), (WALL,), one), False)

    def test_what_is_nearly_a_paper(self):
        part, share = (0, (0, 1), (1, 1)), (1, 1)
        near = [
            [share, (part,)], (share, [part]), (share, (list(part),)), ([1, 1], (part,)), (share, (part,), ()),
            (share,), (share, ()), (share, part), ((-1, 1), (part,)), ((2, 2), (part,)), (1, (part,)), (True, (part,)),
        ]
        near += [(share, (one,)) for one in (
            (0, (0, 1)), (0, (0, 1), (1, 1), 0), (1, (0, 1), (1, 1)), (-1, (0, 1), (1, 1)), (False, (0, 1), (1, 1)),
            (0, (1, 1), (1, 1)), (0, (2, 1), (1, 1)), (0, 0, (1, 1)), (0, (0, 2), (1, 1)), (0, (0, 1), (2, 2)),
            (0, (0, 1), (0, 1)), (0, (0, 1), (-1, 1)), (0, (0, 1), 1), (0, (False, 1), (1, 1)), (0, (0, 1), (True, 1)),
            ("0", (0, 1), (1, 1)), ((0, 1), (0, 1), (1, 1)), (0, None, (1, 1)))]
        for value in near:
            self.assertIs(is_paper((1, 1), (WALL,), value), False, value)
        self.assertIs(is_paper((1, 1), (), (share, (part,))), False)

    def test_nothing_is_taken_less_than_never(self):
        # The sums of the first two are below 0 everywhere; that of the last one is above 0.
        part, share = (0, (0, 1), (1, 1)), (1, 1)
        self.assertIs(is_paper((1, 1), (WALL,), (share, (part, (0, (0, 1), (0, 1))))), False)
        slow = (("slow", (1, 1)), ("slow", (2, 1)))
        self.assertIs(is_paper((1, 1), slow, ((0, 1), ((0, (0, 1), (-1, 1)), (1, (0, 1), (1, 1))))), False)
        under = ("under", (1, 1, 1))
        self.assertIs(is_paper((1, 1), (under,), ((-1, 1), ((0, (0, 1), (4, 1)),))), False)

    def test_distances_of_roofs_and_low(self):
        for ask, right, wrong in ((EAVES, [(1, 1), (2, 1), (3, 1)], [(0, 1), (99, 100), (301, 100), (4, 2)]),
                                  (("low", (1, 1)), [(1, 9), (2, 1), (9, 1)], [(0, 1), (-1, 1), 2])):
            for distance in right:
                # Over the place of its row at this distance, and a little more.
                above = ("over", place_of(distance, (3, 2)))
                value = ((0, 1), ((0, distance, (1, 1)), (1, (0, 1), (1, 1))))
                self.assertIs(is_paper((1, 1), (ask, above), value), True)
            for distance in wrong:
                value = ((0, 1), ((0, distance, (1, 1)), (1, (0, 1), (1, 1))))
                self.assertIs(is_paper((1, 1), (ask, ("over", (2, 3, 2))), value), False)

    def test_very_great_numbers(self):
        great = 10 ** 400
        asks = (("slow", (great + 1, 3)), ("quick", (great, 3)), ("over", (great - 1, great, 7)))
        paper = weights((great, 9), asks)
        self.assertIs(is_paper((great, 9), asks, paper), True)
        self.assertTrue(oracle.settles((great, 9), asks, paper))
        for ask in ASKS:
            self.assertIs(is_paper((1, 1), (ask,), paper), False)

    def test_wrong_arguments(self):
        for value in ((), None, ((1, 1), ((0, (0, 1), (1, 1)),))):
            def told(head, asks):
                return is_paper(head, asks, value)

            check_arguments(self, told, [HEAD_ROW, ASKS_ROW])


class BarredTest(unittest.TestCase):

    def test_one_two_and_three(self):
        self.assertEqual(barred((1, 1), (GATE, WALL)), (1,))
        self.assertEqual(barred((2, 1), (EAVES, WALL, ("under", (2, 1, 2)))), (1, 2))
        self.assertEqual(barred(GREAT, (("over", (1, 1, 1)), GATE, ("over", (3, 1, 1)))), (0, 1, 2))

    def test_the_least_of_the_shortest(self):
        high, higher, dip = ("over", (2, 2, 1)), ("over", (2, 3, 1)), ("under", (2, 1, 2))
        self.assertEqual(barred(GREAT, (high, higher, dip)), (0, 2))
        self.assertEqual(barred(GREAT, (dip, higher, high)), (0, 1))
        self.assertEqual(barred(GREAT, (GATE, dip, higher, high)), (0, 2))
        self.assertEqual(barred((1, 1), (high, dip, higher)), (0,))
        self.assertEqual(barred((1, 1), (dip, GATE, higher, high)), (2,))
        self.assertEqual(barred((1, 1), (high, high)), (0,))

    def test_with_the_head_as_one_of_three(self):
        asks = (("over", (4, 0, 1)), ("over", (2, 3, 2)))
        self.assertEqual(barred((2, 1), asks), (0, 1))
        self.assertIs(barred((9, 1), asks), None)

    def test_none_where_some_jet_is_good(self):
        for head, asks in (((1, 1), ()), ((2, 1), (WALL, EAVES)), ((4, 1), (LOFTY,))):
            self.assertIs(barred(head, asks), None)

    def test_made_ones(self):
        maker = Maker(26)
        lengths = {}
        while sum(lengths.values()) < 150:
            head, asks = maker.above_zero(8), maker.asks(6)
            told = barred(head, asks)
            self.assertEqual(told is None, how_many(head, asks) != "none")
            if told is not None:
                lengths[len(told)] = lengths.get(len(told), 0) + 1
                tuples = [one for size in range(1, 4) for one in combinations(range(len(asks)), size)]
                right = [one for one in tuples if any_jet(head, tuple([asks[at] for at in one])) is None]
                self.assertEqual(told, right[0])
        self.assertEqual(sorted(lengths), [1, 2, 3])

    def test_eight_asks(self):
        asks = (GATE,) * 5 + (("low", (1, 2)), EAVES, WALL)
        self.assertEqual(barred((2, 1), asks), (5, 7))

    def test_wrong_arguments(self):
        check_arguments(self, barred, [HEAD_ROW, ASKS_ROW])


class CallsTest(unittest.TestCase):

    def test_by_name_and_again(self):
        asks = (WALL,)
        for _ in range(2):
            self.assertEqual(how_many(asks=asks, head=(2, 1)), "many")
            self.assertEqual(any_jet(asks=asks, head=(2, 1)), any_jet((2, 1), asks))
            self.assertEqual(weights(asks=asks, head=(1, 1)), weights((1, 1), asks))
            self.assertEqual(barred(asks=asks, head=(1, 1)), (0,))
            self.assertIs(is_paper(value=weights((1, 1), asks), asks=asks, head=(1, 1)), True)


if __name__ == "__main__":
    unittest.main()
