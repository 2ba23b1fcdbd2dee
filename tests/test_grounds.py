"""spoutlines.grounds (points 31 to 33 of the document)."""

import unittest
from fractions import Fraction
from math import isqrt

from spoutlines.asks import does_all, grown_ask, sheared_ask
from spoutlines.errors import InvalidDistance, InvalidGround, InvalidIndex, InvalidNumber
from spoutlines.fits import any_jet, good_jet
from spoutlines.grounds import (
    farthest_strike, ground_word, ground_words, jet_striking, nearest_strike, strike_distance, strike_edge,
    strikes_up_to, struck_edges,
)
from spoutlines.jets import grown_jet, sheared_jet
from spoutlines.misses import jet_missing
from spoutlines.papers import paper_against
from spoutlines.places import grown, place_of, sheared
from spoutlines.ranges import bends_with, slope_range
from tests import oracle
from tests.oracle import Maker, distance_and_height, number, number_below, pair
from tests.samples import (
    ASKS_ROW, DISTANCE_ROW, GROUND_ROW, GROUNDS, HEAD_ROW, INDEX_ROW, JET_ROW, JETS, LONG, MANY_ROW, WRONG_GROUNDS,
    YARD, check_arguments, error_of,
)

ONE, TWO = (1, 1), (2, 1)
# 3 / 4, 1, 3 / 4, 0, - 5 / 4, - 3, - 21 / 4, - 8 high.
ARCH = ((1, 1), (1, 4))
# With the head 2 slopes from 1 up to 3, bends from (1 + t * t) / 8 up to t / 2 - 1 / 4.
WALL = ("over", (2, 1, 1))
# With the head 4 for (2, 5 / 16) alone.
LOFTY, LOFTY_JET = ("over", (4, 3, 1)), ((2, 1), (5, 16))
MANIES = (1, 2, 10, 97, 10 ** 6, 10 ** 12)
TINY = Fraction(1, 10 ** 30)


def place(distance, height):
    return place_of(pair(distance), pair(height))


def ground_of(*corners):
    return tuple([place(distance, height) for distance, height in corners])


def just(value):
    return (pair(value), 0, (0, 1))


def lifted(many, height):
    """Eight corners, so many of them on the arch, and the others by this height above it."""
    rows = [(distance, oracle.height(ARCH, Fraction(distance))) for distance in range(1, 9)]
    return ground_of(*[(x, y + (0 if at < many else height)) for at, (x, y) in enumerate(rows)])


class JetTest(unittest.TestCase):

    def check(self, jet, ground, word, edge, distance):
        told = (ground_word(jet, ground), strike_edge(jet, ground), strike_distance(jet, ground))
        self.assertEqual(told, (word, edge, distance), (jet, ground))

    def test_short(self):
        self.check(((0, 1), (1, 4)), YARD, "short", None, None)
        self.check(ARCH, ground_of((1, Fraction(3, 4) + TINY), (2, -5)), "short", None, None)
        self.check(ARCH, ground_of((1, 1), (2, 1)), "short", None, None)
        self.check(ARCH, lifted(0, 1), "short", None, None)

    def test_past(self):
        self.check(((2, 1), (1, 2)), YARD, "past", None, None)
        self.check(ARCH, ground_of((1, 0), (2, 0)), "past", None, None)
        self.check(ARCH, LONG[:4], "past", None, None)
        self.check(ARCH, lifted(8, 1), "past", None, None)
        self.check(ARCH, lifted(3, -1), "past", None, None)

    def test_each_edge_at_its_begin(self):
        # The arch rises by as much as the edges do less 1 / 4 less, or falls by more.
        for many in range(1, 8):
            for height in (1, Fraction(1, 4), Fraction(1, 3)):
                self.check(ARCH, lifted(many, height), "strikes", many - 1, just(many))

    def test_each_edge_beyond_its_begin(self):
        for many in range(1, 8):
            self.check(ARCH, lifted(many, Fraction(1, 8)), "strikes", many - 1, just(many + Fraction(1, 2)))
            self.check(ARCH, lifted(many, Fraction(1, 40)), "strikes", many - 1, just(many + Fraction(9, 10)))
            self.check(ARCH, lifted(many, TINY), "strikes", many - 1, just(many + 1 - 4 * TINY))

    def test_touching_from_above_is_not_being_below(self):
        # At the first corner, at one between, at the last one, and at all of them.
        self.check(ARCH, ground_of((1, Fraction(3, 4)), (2, 0)), "past", None, None)
        self.check(ARCH, ground_of((1, 0), (2, 1), (3, 0)), "past", None, None)
        self.check(ARCH, ground_of((1, 0), (2, 0), (3, Fraction(3, 4))), "past", None, None)
        self.check(ARCH, ground_of((2, 1), (4, 0), (8, -8)), "past", None, None)
        self.check(ARCH, ground_of((2, 1), (4, 0), (8, -8 + TINY)), "strikes", 1, just(8 - TINY))

    def test_a_corner_touched_and_then_struck(self):
        self.check(((1, 1), (1, 2)), YARD, "strikes", 1, just(2))
        self.check(ARCH, ground_of((1, 0), (4, 0), (5, 0)), "strikes", 1, just(4))

    def test_edges_whose_straight_way_comes_from_above_the_spout(self):
        # x - x * x / 4 = 1 / 2
        level = ground_of((3, Fraction(1, 2)), (5, Fraction(1, 2)))
        self.check(ARCH, level, "strikes", 0, ((2, 1), 1, (2, 1)))
        # - x / 2 + 3 / 2 at 3 / 4: x * x - 6 * x + 6 = 0
        self.check(ARCH, ground_of((3, 0), (5, -1)), "strikes", 0, ((3, 1), 1, (3, 1)))
        self.check(ARCH, ground_of((1, Fraction(3, 4)), (4, Fraction(3, 4))), "strikes", 0, just(3))
        # Of the two distances at which the jet is as high as the straight way the farther one.
        self.check(ARCH, ground_of((2, Fraction(3, 4)), (4, Fraction(3, 4))), "strikes", 0, just(3))

    def test_edges_whose_straight_way_comes_from_the_spout(self):
        self.check(ARCH, ground_of((1, Fraction(1, 2)), (3, Fraction(3, 2))), "strikes", 0, just(2))
        self.check(ARCH, ground_of((5, -5), (9, -9)), "strikes", 0, just(8))
        self.check(ARCH, LONG[2:5], "strikes", 1, just(4))

    def test_edges_whose_straight_way_comes_from_below_the_spout(self):
        self.check(ARCH, YARD, "strikes", 1, ((0, 1), 1, (8, 1)))
        self.check(ARCH, ground_of((4, Fraction(-5, 4)), (6, Fraction(-5, 4))), "strikes", 0, just(5))
        self.check(ARCH, ground_of((1, -1), (9, -1)), "strikes", 0, ((2, 1), 1, (8, 1)))
        self.check(((-1, 1), (1, 1)), ground_of((1, -3), (2, -3)), "strikes", 0, ((-1, 2), 1, (13, 4)))

    def test_made_ones(self):
        maker = Maker(71)
        told = {"short": 0, "strikes": 0, "past": 0}
        for _ in range(600):
            jet = maker.jet()
            ground = made_ground(maker, jet)
            heights = heights_over(jet, ground)
            missed = [at for at, height in enumerate(heights) if height < 0]
            word = "past" if not missed else "short" if missed[0] == 0 else "strikes"
            told[word] += 1
            self.assertEqual(ground_word(jet, ground), word)
            self.assertEqual(strike_edge(jet, ground), missed[0] - 1 if word == "strikes" else None)
            if word == "strikes":
                self.check_strike(jet, ground[missed[0] - 1], ground[missed[0]], strike_distance(jet, ground))
            else:
                self.assertIs(strike_distance(jet, ground), None)
            factor = maker.above_zero()
            tall = tuple([grown(corner, factor) for corner in ground])
            steep = tuple([sheared(corner, factor) for corner in ground])
            for moved, other in ((grown_jet(jet, factor), tall), (sheared_jet(jet, factor), steep)):
                self.assertEqual(ground_word(moved, other), word)
                self.assertEqual(strike_edge(moved, other), strike_edge(jet, ground))
            self.assertEqual(strike_distance(sheared_jet(jet, factor), steep), strike_distance(jet, ground))
        self.assertGreater(min(told.values()), 40)

    def check_strike(self, jet, begin, end, distance):
        """It is at the height of the edge there, and comes down."""
        near, far = distance_and_height(begin)[0], distance_and_height(end)[0]
        at = number_below(distance)
        self.assertTrue(near - TINY < at < far)
        self.assertLess(abs(over_edge(jet, begin, end, at)), TINY)
        self.assertLess(over_edge(jet, begin, end, at + TINY), 0)
        if distance[1] == 0:
            self.assertEqual(over_edge(jet, begin, end, at), 0)
            self.assertLessEqual(near, at)

    def test_all_kinds_of_grounds(self):
        for ground in GROUNDS:
            for jet in JETS:
                self.assertIn(ground_word(jet, ground), ("short", "strikes", "past"))

    def test_wrong_arguments(self):
        for function in (ground_word, strike_edge, strike_distance):
            check_arguments(self, function, [JET_ROW, GROUND_ROW])

    def test_wrong_grounds(self):
        for wrong, index in WRONG_GROUNDS:
            error = error_of(ground_word, ARCH, wrong)
            self.assertIs(error.__class__, InvalidGround)
            self.assertEqual(error.index, index)


def heights_over(jet, ground):
    corners = [distance_and_height(corner) for corner in ground]
    return [oracle.height(jet, distance) - height for distance, height in corners]


def over_edge(jet, begin, end, distance):
    (near, near_height), (far, far_height) = distance_and_height(begin), distance_and_height(end)
    return oracle.height(jet, distance) - near_height - (far_height - near_height) * (distance - near) / (far - near)


def edge_place(ground, index, distance):
    (near, near_height), (far, far_height) = [distance_and_height(corner) for corner in ground[index:index + 2]]
    return place(distance, near_height + (far_height - near_height) * (distance - near) / (far - near))


def made_ground(maker, jet):
    """Corners at random, some of them on the jet if there is one."""
    distance, corners = Fraction(0), []
    for _ in range(maker.random.randint(2, 8)):
        distance += number(maker.above_zero()) / 2
        if jet is not None and maker.random.random() < 0.4:
            corners.append(maker.place_on(jet, distance))
        else:
            corners.append(place_of(pair(distance), maker.fraction()))
    return tuple(corners)


def some_good_jets(head, asks, many, bends):
    """For so many slopes in a row so many good jets."""
    low, high = slope_range(head, asks)
    low = Fraction(-20) if low is None else number_below(low)
    high = max(low, Fraction(60)) if high is None else number_below(high)
    for at in range(many + 1):
        slope = pair(low + (high - low) * Fraction(at, many))
        told = bends_with(head, asks, slope)
        if told is not None:
            least = number(told[0])
            most = 50 * least + 10 if told[1] is None else number(told[1])
            for step in range(bends + 1):
                yield (slope, pair(least + (most - least) * Fraction(step, bends)))


class AllJetsTest(unittest.TestCase):

    def check(self, head, asks, ground, words, edges):
        self.assertEqual(ground_words(head, asks, ground), words)
        self.assertEqual(struck_edges(head, asks, ground), edges)
        for index in range(len(ground) - 1):
            jet = jet_striking(head, asks, ground, index)
            self.assertIs(jet is not None, index in edges)
            self.assertIs(strikes_up_to(head, asks, ground, index, (10 ** 9, 1)), index in edges)
            for function in (nearest_strike, farthest_strike):
                self.assertIs(function(head, asks, ground, index, 10) is not None, index in edges)
            if jet is not None:
                self.assertTrue(oracle.is_good(jet, head, asks))
                self.assertEqual(strike_edge(jet, ground), index)

    def test_many_good_jets(self):
        self.check(ONE, (), YARD, ("short", "strikes"), (0, 1))
        self.check(TWO, (), YARD, ("short", "strikes"), (0, 1))
        self.check((3, 1), (), YARD, ("short", "strikes", "past"), (0, 1))
        self.check(TWO, (), LONG[:8], ("short", "strikes"), (0, 1, 2, 3))
        self.check((4, 1), (), LONG[:8], ("short", "strikes", "past"), (0, 1, 2, 3, 4, 5, 6))
        self.check((2, 1), (WALL,), LONG[:8], ("strikes",), (1, 2, 3))
        self.check((2, 1), (WALL, ("under", (3, -1, 1))), LONG[:8], ("strikes",), (1,))
        self.check((2, 1), (WALL,), LONG[:2], ("past",), ())
        self.check((2, 1), (WALL,), ground_of((1, 2), (2, 0)), ("short",), ())
        self.check((4, 1), (("over", (8, 0, 1)),), LONG[:8], ("past",), ())

    def test_one_good_jet(self):
        # 27 / 16, 11 / 4, 51 / 16, 3 high, and so on.
        asks = (LOFTY,)
        self.check((4, 1), asks, LONG[:8], ("strikes",), (5,))
        self.check((4, 1), asks, ground_of((1, 2), (4, 0)), ("short",), ())
        self.check((4, 1), asks, ground_of((1, 1), (6, 0)), ("past",), ())
        self.assertEqual(jet_striking((4, 1), asks, LONG[:8], 5), LOFTY_JET)
        self.assertEqual(strike_distance(LOFTY_JET, LONG[:8]), just(Fraction(32, 5)))
        for many in MANIES:
            told = (Fraction(32, 5) * many).__floor__(), many % 5 == 0
            self.assertEqual(nearest_strike((4, 1), asks, LONG[:8], 5, many), told)
            self.assertEqual(farthest_strike((4, 1), asks, LONG[:8], 5, many), told)

    def test_no_good_jet(self):
        self.check(ONE, (WALL,), YARD, (), ())
        self.check(ONE, (WALL,), LONG[:8], (), ())

    def test_an_edge_that_one_good_jet_alone_strikes_at_its_begin(self):
        self.assertEqual(jet_striking(ONE, (), YARD, 1), ((1, 1), (1, 2)))
        for many in MANIES:
            self.assertEqual(nearest_strike(ONE, (), YARD, 1, many), (2 * many, True))
            self.assertEqual(farthest_strike(ONE, (), YARD, 1, many), (2 * many, True))
        for distance, told in ((2 - TINY, False), (2, True), (2 + TINY, True), (3, True), (4, True), (1, False)):
            self.assertIs(strikes_up_to(ONE, (), YARD, 1, pair(distance)), told)

    def test_an_edge_that_good_jets_touch_and_none_strikes(self):
        # At the corner at its end, by one alone; at both ends, and at the begin, by all that come down there.
        self.check((4, 1), (LOFTY,), ground_of((3, 1), (4, 3)), ("past",), ())
        self.check((4, 1), (LOFTY,), ground_of((3, Fraction(51, 16)), (4, 3)), ("past",), ())
        self.check((4, 1), (LOFTY,), ground_of((4, 3), (5, 2)), ("past",), ())
        self.check((4, 1), (LOFTY,), ground_of((4, 3), (5, Fraction(35, 16) + TINY)), ("strikes",), (0,))
        # At its end by some of many.
        self.check((3, 1), (("over", (3, 1, 1)),), YARD, ("past",), ())

    def test_words_that_touch(self):
        # All are above or at the corner, some just at it, so that none is short.
        self.check(TWO, (WALL,), ((2, 1, 1), (3, -9, 1)), ("past",), ())
        self.check(TWO, (WALL,), (place(2, 1 + TINY), (3, -9, 1)), ("short", "past"), ())
        # The greatest height at 2 with the head 2 is 3 / 2.
        self.check(TWO, (), ground_of((2, Fraction(3, 2)), (3, -9)), ("short", "past"), ())
        self.check(TWO, (), ground_of((2, Fraction(3, 2) + TINY), (3, -9)), ("short",), ())

    def test_slopes_that_are_no_fractions(self):
        # Jets over the wall with the head 3 have slopes from 3 - root(5) to 3 + root(5), and at 2 the height 1.
        ground = (place(2, 1 - TINY), place(4, -4), place(6, -4))
        self.check((3, 1), (WALL,), ground, ("strikes", "past"), (0, 1))
        # The steepest one comes down to - 3 - root(5) just at 3.
        least = -3 - Fraction(isqrt(5 * 10 ** 60), 10 ** 30)
        self.check((3, 1), (WALL, ("dives", (3, 1), pair(least + TINY))), ground, ("strikes",), (0,))
        jet = jet_striking((3, 1), (WALL, ("dives", (3, 1), pair(least + TINY))), ground, 0)
        self.assertLess(oracle.slope(jet, Fraction(3)), least + 2 * TINY)

    def test_eight_asks(self):
        self.check(TWO, (WALL,) * 8, LONG[:8], ("strikes",), (1, 2, 3))

    def test_made_ones(self):
        maker = Maker(72)
        told = {}
        for _ in range(160):
            head, asks = maker.task()
            jet = any_jet(head, asks)
            ground = made_ground(maker, jet)
            words, edges = ground_words(head, asks, ground), struck_edges(head, asks, ground)
            self.assertIs("strikes" in words, bool(edges))
            self.assertEqual(words, tuple([word for word in ("short", "strikes", "past") if word in words]))
            self.assertEqual(edges, tuple(sorted(edges)))
            self.assertIs(jet is None, words == ())
            found = {"past": set(), "short": set(), "strikes": set()}
            for good in some_good_jets(head, asks, 20, 6) if jet else []:
                found[ground_word(good, ground)].add(strike_edge(good, ground))
            for word, seen in found.items():
                self.assertTrue(not seen or word in words, (head, asks, ground))
                self.assertLessEqual(seen - {None}, set(edges))
            self.check_ends_of_words(head, asks, ground, words)
            for index in range(len(ground) - 1):
                self.check_edge(head, asks, ground, index, index in edges)
            told[words] = told.get(words, 0) + 1
        self.assertGreater(len(told), 5)

    def check_ends_of_words(self, head, asks, ground, words):
        """Of the jets that are short, and past, there are some, or a paper shows that there are none."""
        distance, height = distance_and_height(ground[0])
        rows = [("short", jet_missing(head, asks, ("over", ground[0])), (("under", place(distance, height - TINY)),))]
        past = tuple([("over", corner) for corner in ground])
        rows.append(("past", good_jet(head, asks + past), past))
        for word, jet, more in rows:
            if word in words:
                self.assertTrue(oracle.is_good(jet, head, asks))
                self.assertEqual(ground_word(jet, ground), word)
            else:
                self.assertTrue(oracle.settles(head, asks + more, paper_against(head, asks + more)))

    def check_edge(self, head, asks, ground, index, is_struck):
        above = asks + tuple([("over", corner) for corner in ground[:index + 1]])
        jet = jet_striking(head, asks, ground, index)
        if is_struck:
            self.assertTrue(oracle.is_good(jet, head, asks))
            self.assertEqual(strike_edge(jet, ground), index)
            return
        self.assertIs(jet, None)
        distance, height = distance_and_height(ground[index + 1])
        below = above + (("under", place(distance, height - TINY)),)
        self.assertTrue(oracle.settles(head, below, paper_against(head, below)))

    def test_grown(self):
        maker = Maker(73)
        for _ in range(60):
            head, asks = maker.task()
            ground = made_ground(maker, any_jet(head, asks))
            factor = maker.above_zero()
            more = tuple([grown_ask(ask, factor) for ask in asks])
            head_grown = pair(number(head) * number(factor))
            tall = tuple([grown(corner, factor) for corner in ground])
            self.assertEqual(ground_words(head_grown, more, tall), ground_words(head, asks, ground))
            edges = struck_edges(head, asks, ground)
            self.assertEqual(struck_edges(head_grown, more, tall), edges)
            for index in edges:
                for function in (nearest_strike, farthest_strike):
                    self.assertEqual(
                        function(head_grown, more, tall, index, 12 * factor[1]),
                        function(head, asks, ground, index, 12 * factor[0]))

    def test_sheared(self):
        # A jet sheared along with what it does, and with the ground, strikes it at the same distance.
        jets = [jet for jet in some_good_jets((3, 1), (WALL,), 10, 10)]
        ground = ground_of((1, 0), (2, 0), (3, Fraction(-1, 2)), (6, -2))
        steep = tuple([sheared(corner, (2, 3)) for corner in ground])
        for jet in jets:
            moved = sheared_jet(jet, (2, 3))
            self.assertTrue(does_all(moved, (sheared_ask(WALL, (2, 3)),)))
            self.assertEqual(strike_distance(moved, steep), strike_distance(jet, ground))

    def test_wrong_arguments(self):
        for function in (ground_words, struck_edges):
            check_arguments(self, function, [HEAD_ROW, ASKS_ROW, GROUND_ROW])
        check_arguments(self, jet_striking, [HEAD_ROW, ASKS_ROW, GROUND_ROW, INDEX_ROW])

    def test_indexes_of_edges(self):
        for ground in GROUNDS:
            for index in (-1, len(ground) - 1, len(ground), True, False, None, (0,), "0"):
                error = error_of(jet_striking, TWO, (), ground, index)
                self.assertIs(error.__class__, InvalidIndex)
                self.assertIs(error.given, index)
            for index in range(len(ground) - 1):
                jet_striking(TWO, (), ground, index)


class EndsTest(unittest.TestCase):

    def check(self, head, asks, ground, index, low, high):
        """The ends, told by functions from a number to the greatest whole number up to its product, and if it is it."""
        for many in MANIES:
            self.assertEqual(nearest_strike(head, asks, ground, index, many), low(many), many)
            self.assertEqual(farthest_strike(head, asks, ground, index, many), high(many), many)

    def test_of_the_yard(self):
        # All heights from 0 at 1 on: the begin of edge 0; (1, 1 / 2) alone comes to its end, and is not below that.
        self.check(ONE, (), YARD, 0, at(1), at(2))
        # Up to the height 2 - x * x / 8.
        self.check(TWO, (), YARD, 0, at(1), at(2))
        self.check(TWO, (), YARD, 1, at(2), by_root(-4, 48))
        self.check((3, 1), (), YARD, 1, at(2), at(3))

    def test_within_an_edge(self):
        # Over the wall (3, 5 / 4) comes down first, to - 3 at 6 / 5 + root(96) / 5, and (1, 1 / 4) last, at 6.
        self.check(TWO, (WALL,), ground_of((3, -3), (7, -3)), 0, by_root(Fraction(6, 5), Fraction(96, 25)), at(6))
        self.check(TWO, (WALL,), ground_of((2, Fraction(-9, 4)), (7, Fraction(-9, 4))), 0, at(3), by_root(2, 13))
        # Just at the end of the edge there is the first one, and the last one.
        self.check(TWO, (WALL,), ground_of((5, -3), (6, -3)), 0, at(5), at(6))
        last = (place(3, -3), place(6 + TINY, -3))
        self.check(TWO, (WALL,), last, 0, by_root(Fraction(6, 5), Fraction(96, 25)), at(6))

    def test_upper_ends_at_the_end_of_the_edge(self):
        # The corner is touched from above, or jets pass over it: strikes come as near to it as one likes.
        self.check((4, 1), (), ground_of((1, 0), (4, 3)), 0, at(1), at(4))
        self.check(TWO, (WALL,), LONG[:8], 1, at(Fraction(12, 5)), at(3))
        self.assertIs(strikes_up_to((4, 1), (), ground_of((1, 0), (4, 3)), 0, (4, 1)), True)

    def test_upper_ends_just_before_the_end_of_the_edge(self):
        # None comes up to the corner.
        rise = Fraction(301, 300)
        ground = ground_of((1, 0), (4, 3 * rise))
        self.check((4, 1), (), ground, 0, at(1), by_root(-8 * rise, 64 * rise * rise + 16 * rise + 64))

    def test_upper_ends_at_the_begin_of_the_edge(self):
        # All come down there, through the corner.
        through = (("over", (2, 0, 1)), ("under", (2, 0, 1)))
        self.check(TWO, through, ground_of((2, 0), (5, 0)), 0, at(2), at(2))
        # So do all that are not above the corner, be the edge level or steep.
        for rise in (0, 9):
            self.check(TWO, (("under", (2, 0, 1)),), ground_of((2, 0), (5, rise)), 0, at(2), at(2))
        falling = ground_of((2, 0), (5, -3))
        self.check(TWO, through + (("dives", (2, 1), (-1, 1)),), falling, 0, at(2), at(2))
        # Some that rise just more strike it just beyond.
        for bit in (TINY, -TINY):
            asks = through + (("dives", (2, 1), pair(-1 + bit)),)
            self.assertEqual(nearest_strike(TWO, asks, falling, 0, 10), (20, True))
            self.assertEqual(farthest_strike(TWO, asks, falling, 0, 10), (20, bit < 0))
        # If all do, none strikes it at the begin.
        asks = through + (("climbs", (2, 1), pair(-1 + TINY)), ("dives", (2, 1), (0, 1)))
        self.assertEqual(nearest_strike(TWO, asks, falling, 0, 10), (20, False))
        self.assertIs(strikes_up_to(TWO, asks, falling, 0, (2, 1)), False)
        # Those above the begin count, however few they are.
        asks = (("over", (2, 0, 1)), ("under", place(2, TINY)))
        self.assertEqual(farthest_strike(TWO, asks, ground_of((2, 0), (5, 9)), 0, 10), (20, False))

    def test_at_a_begin_that_is_no_whole_number_of_parts(self):
        asks, ground = (("over", (5, 0, 2)), ("under", (5, 0, 2))), ground_of((Fraction(5, 2), 0), (5, 0))
        for many, told in ((1, (2, False)), (2, (5, True)), (3, (7, False)), (4, (10, True))):
            self.assertEqual(nearest_strike(TWO, asks, ground, 0, many), told)
            self.assertEqual(farthest_strike(TWO, asks, ground, 0, many), told)

    def test_with_jets_above_the_begin_that_all_pass_over_the_end(self):
        # At the begin some touch; all that are above it are over the end, too.
        ground = ground_of((2, 1), (3, Fraction(3, 4)))
        asks = (WALL, ("climbs", (0, 1), (1, 1)), ("dives", (0, 1), (1, 1)))
        self.assertEqual(ground_words(TWO, asks, ground), ("past",))
        self.assertIs(farthest_strike(TWO, asks, ground, 0, 7), None)
        self.assertIs(nearest_strike(TWO, asks, ground, 0, 7), None)

    def test_none_strikes_it(self):
        for many in MANIES:
            for function in (nearest_strike, farthest_strike):
                self.assertIs(function(ONE, (WALL,), YARD, 0, many), None)
                self.assertIs(function(ONE, (("under", (1, 0, 1)),), YARD, 1, many), None)
                self.assertIs(function((4, 1), (LOFTY,), LONG[:8], 4, many), None)

    def test_strikes_up_to(self):
        first = (Fraction(6, 5) + Fraction(isqrt(96 * 10 ** 60), 5 * 10 ** 30))
        rows = [(Fraction(1, 9), False), (3, False), (first, False), (first + TINY, True), (4, True), (7, True),
            (9, True)]
        for distance, told in rows:
            self.assertIs(strikes_up_to(TWO, (WALL,), ground_of((3, -3), (7, -3)), 0, pair(distance)), told)
        # The first strike is at the begin, and just there.
        rows = [(5 - TINY, False), (5, True), (5 + TINY, True), (6, True), (10 ** 9, True)]
        for distance, told in rows:
            self.assertIs(strikes_up_to(TWO, (WALL,), ground_of((5, -3), (6, -3)), 0, pair(distance)), told)
        # None strikes it at all.
        for distance in (1, 2, 3, 5, 9):
            self.assertIs(strikes_up_to(ONE, (WALL,), YARD, 0, (distance, 1)), False)
            self.assertIs(strikes_up_to((4, 1), (LOFTY,), ground_of((3, 1), (4, 3)), 0, (distance, 1)), False)

    def test_short_ones_do_not_count(self):
        # Rising by 1 / 4 at 2 those that are not short strike it from 4 on; short ones are below it at 3.
        asks, ground = (("climbs", (2, 1), (1, 4)),), ((2, 1, 1), (9, 1, 1))
        self.assertIn("short", ground_words((9, 1), asks, ground))
        for many in MANIES:
            self.assertEqual(nearest_strike((9, 1), asks, ground, 0, many), (4 * many, True))
        for distance, told in ((2, False), (3, False), (4 - TINY, False), (4, True), (9, True)):
            self.assertIs(strikes_up_to((9, 1), asks, ground, 0, pair(distance)), told)

    def test_at_the_begin_a_jet_must_not_rise_above_the_edge(self):
        # Through (1, 0) jets have the slope 0 - bend there; with bends up to 1 they fall by 1 at most.
        asks = (("over", (1, 0, 1)), ("under", (1, 0, 1)), ("quick", (1, 1)))
        for rise, told in ((-1, True), (-1 - TINY, False), (0, True), (1, True)):
            ground = ground_of((1, 0), (2, rise))
            self.assertIs(strikes_up_to(ONE, asks, ground, 0, ONE), told)
            self.assertEqual(nearest_strike(ONE, asks, ground, 0, 10), (10, told))

    def test_made_ones(self):
        maker = Maker(74)
        told = {"just": 0, "not just": 0, "begin": 0, "within": 0, "end": 0}
        for _ in range(250):
            head, asks = maker.task()
            jet = any_jet(head, asks)
            ground = made_ground(maker, jet)
            for index in struck_edges(head, asks, ground):
                many = maker.random.choice(MANIES)
                self.check_lower_end(head, asks, ground, index, many, told)
                self.check_upper_end(head, asks, ground, index, many, told)
                self.check_jets(head, asks, ground, index, many)
        self.assertTrue(min(told["just"], told["not just"], told["end"]) > 30 and told["begin"] > 2)

    def check_none(self, head, asks):
        self.assertTrue(oracle.settles(head, asks, paper_against(head, asks)))

    def check_lower_end(self, head, asks, ground, index, many, told):
        """It is struck up to the end, and not before."""
        n, is_just = nearest_strike(head, asks, ground, index, many)
        above = asks + tuple([("over", corner) for corner in ground[:index + 1]])
        at_end, next_one = Fraction(n, many), Fraction(n + 1, many)
        begin = distance_and_height(ground[index])[0]
        self.assertIs(strikes_up_to(head, asks, ground, index, pair(next_one)), True)
        if at_end > 0:
            self.assertIs(strikes_up_to(head, asks, ground, index, pair(at_end)), is_just)
        if is_just:
            self.assertLessEqual(begin, at_end)
            if at_end - TINY > begin:
                self.check_none(head, above + (("under", edge_place(ground, index, at_end - TINY)),))
        elif at_end > begin:
            self.check_none(head, above + (("under", edge_place(ground, index, at_end)),))
        told["just" if is_just else "not just"] += 1

    def check_upper_end(self, head, asks, ground, index, many, told):
        """Jets come up to the edge there, and not beyond."""
        n, is_just = farthest_strike(head, asks, ground, index, many)
        above = asks + tuple([("over", corner) for corner in ground[:index + 1]]) + (("under", ground[index + 1]),)
        at_end, next_one = Fraction(n, many), Fraction(n + 1, many)
        (begin, _), (end, _) = [distance_and_height(corner) for corner in ground[index:index + 2]]
        self.assertLessEqual(at_end, end)
        self.assertLess(begin, next_one)
        if at_end > begin:
            self.assertIs(paper_against(head, above + (("over", edge_place(ground, index, at_end)),)), None)
        if next_one <= end:
            self.check_none(head, above + (("over", edge_place(ground, index, next_one)),))
        if at_end < begin:
            self.assertIs(is_just, False)
        elif at_end < end:
            paper = paper_against(head, above + (("over", edge_place(ground, index, at_end + TINY)),))
            self.assertIs(is_just, paper is not None)
        else:
            self.assertIs(is_just, True)
        if is_just:
            told["begin" if at_end == begin else "end" if at_end == end else "within"] += 1

    def check_jets(self, head, asks, ground, index, many):
        low, high = [function(head, asks, ground, index, many) for function in (nearest_strike, farthest_strike)]
        for jet in some_good_jets(head, asks, 8, 4):
            if strike_edge(jet, ground) == index:
                distance = number_below(strike_distance(jet, ground))
                self.assertLessEqual(Fraction(low[0], many) - TINY, distance)
                self.assertLessEqual(distance, Fraction(high[0] + (0 if high[1] else 1), many))

    def test_great_numbers(self):
        maker = Maker(75, 10 ** 30)
        found = 0
        for _ in range(12):
            head, asks = maker.task()
            ground = made_ground(maker, any_jet(head, asks))
            for index in struck_edges(head, asks, ground):
                found += 1
                told = {"just": 0, "not just": 0, "begin": 0, "within": 0, "end": 0}
                self.check_lower_end(head, asks, ground, index, 10 ** 12, told)
                self.check_upper_end(head, asks, ground, index, 10 ** 12, told)
        self.assertGreater(found, 3)

    def test_very_great_numbers(self):
        great = 10 ** 399
        ground = ((great, 0, 1), (2 * great, 0, 1), (3 * great, great, 1))
        self.assertEqual(struck_edges((2 * great, 1), (), ground), (0, 1))
        self.assertEqual(farthest_strike((great, 1), (), ground, 1, 1), (2 * great, True))
        self.assertEqual(
            farthest_strike((2 * great, 1), (), ground, 1, 1), (isqrt(48 * great * great) - 4 * great, False))

    def test_wrong_arguments(self):
        check_arguments(self, strikes_up_to, [HEAD_ROW, ASKS_ROW, GROUND_ROW, INDEX_ROW, DISTANCE_ROW])
        for function in (nearest_strike, farthest_strike):
            check_arguments(self, function, [HEAD_ROW, ASKS_ROW, GROUND_ROW, INDEX_ROW, MANY_ROW])
        self.assertIs(error_of(strikes_up_to, TWO, (), YARD, 0, (0, 1)).__class__, InvalidDistance)
        for many in (0, -1, 10 ** 12 + 1, True, (1, 1)):
            self.assertIs(error_of(nearest_strike, TWO, (), YARD, 0, many).__class__, InvalidNumber)


def at(value):
    """What is told for an end that is this number."""
    return lambda many: ((Fraction(value) * many).__floor__(), (Fraction(value) * many).denominator == 1)


def by_root(part, square):
    """What is told for an end that is part + root(square), no fraction."""
    scale = 10 ** 40

    def told(many):
        root = isqrt(int(Fraction(square) * scale * scale))
        return ((Fraction(part) + Fraction(root, scale)) * many).__floor__(), False
    return told


if __name__ == "__main__":
    unittest.main()
