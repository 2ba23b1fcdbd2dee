"""spoutlines.streams (points 36 and 37 of the document)."""

import unittest
from fractions import Fraction
from math import gcd

from spoutlines.errors import InvalidFraction, InvalidIndex, InvalidStream
from spoutlines.numbers import compare, is_surd, surd_plus, surd_times
from spoutlines.streams import drops_meet, first_there, is_stream, meetings, water_at
from tests.oracle import Maker, number, number_below, pair
from tests.samples import NO_FRACTIONS, NO_STREAMS, NO_WHOLES, STREAM_ROW, STREAMS, check_arguments, error_of, row_for

ARCH = ((1, 1), (1, 4))
TINY = Fraction(1, 10 ** 30)
OTHERS = {"first": "other", "other": "first", "both": "both"}
OTHER_ROW = row_for("other", STREAM_ROW)
FRACTION_ROW = ("fraction", (1, 2), InvalidFraction, NO_FRACTIONS)


def point(right, up):
    right, up = Fraction(right), Fraction(up)
    found = (right.numerator * up.denominator, up.numerator * right.denominator, right.denominator * up.denominator)
    return tuple([one // gcd(*found) for one in found])


def stream(right, up, way, slope, bend):
    return (point(right, up), way, (pair(slope), pair(bend)))


def spout(of_stream):
    return Fraction(of_stream[0][0], of_stream[0][2]), Fraction(of_stream[0][1], of_stream[0][2])


def height(of_stream, right):
    """The height of its water there, were it everywhere."""
    (begin, up), slope, bend = spout(of_stream), number(of_stream[2][0]), number(of_stream[2][1])
    ahead = of_stream[1] * (right - begin)
    return up + slope * ahead - bend * ahead * ahead


def square_of_time(of_stream, right):
    return number(of_stream[2][1]) * (right - spout(of_stream)[0]) ** 2


def moved(of_stream, right, up):
    begin, low = spout(of_stream)
    return (point(begin + right, low + up), of_stream[1], of_stream[2])


def mirrored(of_stream):
    (right, up, unit), way, jet = of_stream
    return ((-right, up, unit), -way, jet)


def tall(of_stream, factor):
    begin, low = spout(of_stream)
    slope, bend = of_stream[2]
    return (point(begin * factor, low * factor), of_stream[1], (slope, pair(number(bend) / factor)))


def just(value):
    return (pair(value), 0, (0, 1))


LEFT, RIGHT = stream(0, 0, 1, 1, Fraction(1, 4)), stream(4, 1, -1, 0, Fraction(1, 4))
BACK, STEEP, MATE = stream(3, 0, -1, 2, 1), stream(0, 2, 1, 0, 1), stream(4, 0, -1, 1, Fraction(1, 4))


class StreamTest(unittest.TestCase):

    def test_is_stream(self):
        for value in STREAMS + [LEFT, RIGHT, BACK, STEEP, MATE]:
            self.assertIs(is_stream(value), True)
        for value in NO_STREAMS:
            self.assertIs(is_stream(value), False)

    def test_water_at(self):
        for right, told in ((0, 0), (1, Fraction(3, 4)), (2, 1), (4, 0), (8, -8), (-1, None), (-TINY, None)):
            self.assertEqual(water_at(LEFT, pair(right)), None if told is None else pair(told))
        for right, told in ((4, 1), (3, Fraction(3, 4)), (0, -3), (-4, -15), (5, None), (4 + TINY, None)):
            self.assertEqual(water_at(RIGHT, pair(right)), None if told is None else pair(told))
        half = stream(Fraction(-1, 2), Fraction(5, 3), -1, -2, Fraction(1, 7))
        self.assertEqual(water_at(half, (-1, 2)), (5, 3))
        self.assertEqual(water_at(half, (-3, 2)), pair(Fraction(5, 3) - 2 - Fraction(1, 7)))
        self.assertIs(water_at(half, (0, 1)), None)

    def test_water_of_made_ones(self):
        maker = Maker(91)
        for _ in range(200):
            made, right = made_stream(maker), number(maker.fraction())
            has_water = made[1] * (right - spout(made)[0]) >= 0
            self.assertEqual(water_at(made, pair(right)), pair(height(made, right)) if has_water else None)
            begin, low = spout(made)
            self.assertEqual(water_at(made, pair(begin)), pair(low))

    def test_wrong_arguments(self):
        check_arguments(self, water_at, [STREAM_ROW, FRACTION_ROW])


class MeetingsTest(unittest.TestCase):

    def check(self, one, other, told, words=()):
        """The meetings and whose water is there first, also exchanged, moved, mirrored, grown; surds are told whole."""
        self.assertEqual(meetings(one, other), told)
        if told is None:
            for index in (0, 1, 2, -1):
                self.check_no_index(one, other, index)
        else:
            self.assertEqual(tuple([first_there(one, other, index) for index in range(len(told))]), words)
            self.check_no_index(one, other, len(told))
            self.check_no_index(one, other, -1)
        check_likewise(self, one, other)

    def check_no_index(self, one, other, index):
        error = error_of(first_there, one, other, index)
        self.assertIs(error.__class__, InvalidIndex)
        self.assertEqual(error.given, index)

    def test_none(self):
        # Above one another everywhere, back to back, beyond one another, and by the gap between parallel falls.
        self.check(LEFT, stream(0, 1, 1, 1, Fraction(1, 4)), ())
        self.check(LEFT, stream(0, 1, 1, 1, Fraction(1, 5)), ())
        self.check(LEFT, stream(-1, 0, -1, 1, Fraction(1, 4)), ())
        self.check(LEFT, stream(-TINY, 0, -1, 1, Fraction(1, 4)), ())
        self.check(LEFT, stream(2, 9, 1, 0, Fraction(1, 9)), ())
        self.check(RIGHT, stream(4, 0, -1, 0, Fraction(1, 4)), ())

    def test_one_of_unlike_ways(self):
        self.check(LEFT, RIGHT, ((just(3), just(Fraction(3, 4))),), ("other",))
        self.check(LEFT, STEEP, ((((-2, 3), 1, (28, 9)), ((-14, 9), 1, (448, 81))),), ("first",))

    def test_touching(self):
        self.check(LEFT, BACK, ((just(2), just(1)),), ("both",))
        # At 1, as steep as the arch is there.
        rows = [(0, Fraction(-3, 4), Fraction(5, 2), "first"), (Fraction(1, 2), Fraction(1, 4), Fraction(3, 2), "both"),
            (Fraction(3, 4), Fraction(9, 16), 1, "other")]
        for right, up, slope, word in rows:
            self.check(LEFT, stream(right, up, 1, slope, 1), ((just(1), just(Fraction(3, 4))),), (word,))
            self.check(LEFT, stream(right, up - TINY, 1, slope, 1), ())

    def test_two(self):
        one, other = stream(0, 0, 1, 2, 1), stream(0, 0, 1, Fraction(1, 2), Fraction(1, 4))
        self.check(one, other, ((just(0), just(0)), (just(2), just(0))), ("both", "other"))
        # From the right, - 9 / 4 + 4 * x - x * x.
        three_quarters = just(Fraction(3, 4))
        self.check(LEFT, stream(4, Fraction(-9, 4), -1, 4, 1), ((just(1), three_quarters), (just(3), three_quarters)),
            ("first", "other"))
        # At 2 - root(2) and 2 + root(2).
        self.check(LEFT, stream(4, Fraction(-3, 2), -1, 4, 1),
            ((((2, 1), -1, (2, 1)), just(Fraction(1, 2))), (((2, 1), 1, (2, 1)), just(Fraction(1, 2)))),
            ("first", "other"))

    def test_ahead_of_one_and_behind_the_other(self):
        # They would meet at 3, where one of them has no water.
        self.check(LEFT, stream(Fraction(5, 2), Fraction(7, 16), -1, Fraction(-3, 4), Fraction(1, 4)), ())
        later = stream(3 + TINY, height(LEFT, 3 + TINY), 1, -(1 + TINY) / 2, Fraction(1, 4))
        self.check(later, RIGHT, ())
        # Of the two points at which they would meet one is left, at 1 or at 3.
        high = ((just(1), just(Fraction(3, 4))), (just(3), just(Fraction(3, 4))))
        self.check(LEFT, stream(2, Fraction(7, 4), -1, 0, 1), high[:1], ("first",))
        self.check(LEFT, stream(2, Fraction(7, 4), 1, 0, 1), high[1:], ("other",))

    def test_at_a_spout(self):
        here = ((just(3), just(Fraction(3, 4))),)
        to_left = stream(3, Fraction(3, 4), -1, Fraction(-1, 2), Fraction(1, 4))
        to_right = stream(3, Fraction(3, 4), 1, Fraction(-1, 2), Fraction(1, 4))
        self.check(LEFT, to_left, here, ("other",))
        self.check(to_right, RIGHT, here, ("first",))
        self.check(to_right, to_left, here, ("both",))
        # The other one's spout is in the water, and where it meets it again.
        self.check(LEFT, stream(2, 1, 1, 5, 9),
            ((just(2), just(1)), (just(Fraction(18, 7)), just(Fraction(45, 49)))), ("other", "first"))
        self.check(LEFT, stream(2, 1, -1, 1, 1), ((just(Fraction(2, 3)), just(Fraction(5, 9))), (just(2), just(1))),
            ("first", "other"))
        self.check(LEFT, stream(2, 1, -1, 5, 1), ((just(2), just(1)),), ("other",))
        self.check(LEFT, stream(0, 0, 1, 9, 9),
            ((just(0), just(0)), (just(Fraction(32, 35)), just(Fraction(864, 1225)))), ("both", "first"))
        self.check(LEFT, stream(0, 0, -1, 9, 9), ((just(0), just(0)),), ("both",))

    def test_the_same_water(self):
        # From an x to another one, endlessly to the right, to the left, from the same spout.
        self.check(LEFT, MATE, None)
        self.check(LEFT, LEFT, None)
        self.check(RIGHT, RIGHT, None)
        self.check(LEFT, stream(1, Fraction(3, 4), 1, Fraction(1, 2), Fraction(1, 4)), None)
        self.check(MATE, stream(1, Fraction(3, 4), -1, Fraction(-1, 2), Fraction(1, 4)), None)
        self.check(LEFT, stream(TINY, height(LEFT, TINY), -1, TINY / 2 - 1, Fraction(1, 4)), None)
        # In one x alone, and in none.
        self.check(LEFT, stream(0, 0, -1, -1, Fraction(1, 4)), ((just(0), just(0)),), ("both",))
        self.check(stream(2, 1, 1, 0, Fraction(1, 4)), stream(2, 1, -1, 0, Fraction(1, 4)),
            ((just(2), just(1)),), ("both",))
        self.check(stream(3, Fraction(3, 4), 1, Fraction(-1, 2), Fraction(1, 4)),
            stream(1, Fraction(3, 4), -1, Fraction(-1, 2), Fraction(1, 4)), ())
        self.check(LEFT, stream(-TINY, height(LEFT, -TINY), -1, -1 - TINY / 2, Fraction(1, 4)), ())

    def test_parallel_falls(self):
        # Where both bend alike they meet once at most.
        self.check(LEFT, stream(0, 1, 1, 0, Fraction(1, 4)), ((just(1), just(Fraction(3, 4))),), ("both",))
        self.check(LEFT, stream(0, -1, 1, 2, Fraction(1, 4)), ((just(1), just(Fraction(3, 4))),), ("both",))
        self.check(LEFT, stream(1, 0, 1, 1, Fraction(1, 4)),
            ((just(Fraction(5, 2)), just(Fraction(15, 16))),), ("other",))

    def test_made_ones(self):
        maker = Maker(92)
        told = {}
        for _ in range(500):
            one, other = made_pair(maker)
            found = meetings(one, other)
            told[None if found is None else len(found)] = True
            self.assertEqual(found is None, self.have_the_same_water(one, other))
            if found is not None:
                for index, (right, up) in enumerate(found):
                    self.check_meeting(one, other, right, up, first_there(one, other, index))
                self.check_no_other(one, other, found)
            check_likewise(self, one, other)
        self.assertEqual(set(told), {None, 0, 1, 2})

    def have_the_same_water(self, one, other):
        if any([height(one, right) != height(other, right) for right in (0, 1, 2)]):
            return False
        begin, other_begin = spout(one)[0], spout(other)[0]
        return one[1] == other[1] or (begin < other_begin if one[1] == 1 else other_begin < begin)

    def check_meeting(self, one, other, right, up, word):
        self.assertTrue(is_surd(right) and is_surd(up))
        at = number_below(right)
        for each in (one, other):
            self.assertLess(abs(height(each, at) - number_below(up)), TINY)
            self.assertGreaterEqual(each[1] * (at - spout(each)[0]), -TINY)
            if right[1] == 0:
                self.assertEqual(water_at(each, right[0]), up[0])
        later = square_of_time(one, at) - square_of_time(other, at)
        self.assertEqual(word, "both" if abs(later) < TINY else "other" if later > 0 else "first")

    def check_no_other(self, one, other, found):
        """Between the spouts, the meetings and far off the same one is always above the other one."""
        ends = sorted([Fraction(-10 ** 6), Fraction(10 ** 6), spout(one)[0], spout(other)[0]]
            + [number_below(right) for right, _ in found])
        for begin, end in zip(ends, ends[1:]):
            middle = (begin + end) / 2
            if all([each[1] * (middle - spout(each)[0]) > 0 for each in (one, other)]):
                gaps = [height(one, begin + (end - begin) * Fraction(at, 64)) -
                        height(other, begin + (end - begin) * Fraction(at, 64)) for at in range(1, 64)]
                self.assertTrue(max(gaps) < 0 or min(gaps) > 0, (one, other))

    def test_very_great_numbers(self):
        # From one spout above the other one, 3 * u - u * u / great and great - u * u / (10 * great).
        great = 10 ** 399
        one, other = ((great, 0, 1), 1, ((3, 1), (1, great))), ((great, great, 1), 1, ((0, 1), (1, 10 * great)))
        found = meetings(one, other)
        for (right, up), by in zip(found, (-1, 1)):
            self.assertEqual(right, (pair(Fraction(8 * great, 3)), by, pair(Fraction(540 * great * great, 324))))
            self.assertTrue(is_surd(up))
        self.assertEqual([first_there(one, other, index) for index in (0, 1)], ["other", "other"])

    def test_wrong_arguments(self):
        for function in (meetings, drops_meet):
            check_arguments(self, function, [STREAM_ROW, OTHER_ROW])
        rows = [("stream", LEFT, InvalidStream, NO_STREAMS), ("other", RIGHT, InvalidStream, NO_STREAMS),
            ("index", 0, InvalidIndex, NO_WHOLES + [1, 2, -1, 10 ** 400])]
        check_arguments(self, first_there, rows)
        # No index is one where they have the same water, or where they do not meet.
        for other in (MATE, stream(0, 1, 1, 1, Fraction(1, 4))):
            for index in (0, 1, -1, True, None, (0,), 10 ** 400):
                for error in (error_of(first_there, LEFT, other, index),
                              error_of(first_there, index=index, other=other, stream=LEFT)):
                    self.assertIs(error.__class__, InvalidIndex)
                    self.assertIs(error.given, index)


class DropsTest(unittest.TestCase):

    def check(self, one, other, told):
        self.assertIs(drops_meet(one, other), told)
        check_likewise(self, one, other)

    def test_they_meet(self):
        self.check(LEFT, BACK, True)
        self.check(LEFT, MATE, True)
        self.check(stream(0, 0, 1, 1, Fraction(1, 4)), stream(0, 1, 1, 0, Fraction(1, 4)), True)
        # Both go as fast to the right, and one of them upward to the other one.
        self.check(stream(0, 0, 1, 3, 2), stream(0, 7, 1, 1, 2), True)
        # One catches the other one up.
        self.check(stream(0, 0, 1, 1, Fraction(1, 4)), stream(2, -2, 1, 0, 1), False)
        self.check(stream(0, 0, 1, 1, Fraction(1, 4)), stream(1, 0, 1, 2, 1), True)
        self.check(stream(0, 0, -1, 1, Fraction(1, 4)), stream(-1, 0, -1, 2, 1), True)
        # By roots: they come nearer by 1 + 1 / root(2) to the right, and not at all upward.
        self.check(stream(0, 0, 1, 0, 1), stream(5, 0, -1, 0, 2), True)
        self.check(stream(0, 0, 1, 0, 1), stream(5, TINY, -1, 0, 2), False)
        self.check(stream(0, 0, 1, 1, 1), stream(5, 5, -1, -1, 2), True)

    def test_at_the_start(self):
        for way in (1, -1):
            self.check(LEFT, stream(0, 0, way, -3, 7), True)
            self.check(LEFT, stream(0, TINY, way, -3, 7), False)
            self.check(LEFT, stream(TINY, 0, way, -3, 7), False)

    def test_they_miss(self):
        self.check(LEFT, RIGHT, False)
        self.check(LEFT, STEEP, False)
        # They come to one point, though not at one time; they part; they stay as far from each other.
        self.check(LEFT, stream(6, 0, -1, 1, Fraction(1, 5)), False)
        self.check(stream(0, 0, 1, 0, 1), stream(-5, 0, -1, 0, 1), False)
        self.check(stream(0, 0, 1, 3, 2), stream(0, -7, 1, 1, 2), False)
        self.check(LEFT, stream(1, 0, 1, 1, Fraction(1, 4)), False)
        self.check(LEFT, stream(0, 1, 1, 1, Fraction(1, 4)), False)
        # Were time to go back, they would have met.
        self.check(stream(0, 0, -1, 1, Fraction(1, 4)), stream(1, 0, -1, 2, 1), False)
        self.check(stream(1, 0, 1, 1, Fraction(1, 4)), stream(0, 0, 1, 2, 1), False)

    def test_a_stream_and_itself(self):
        for one in (LEFT, RIGHT, BACK, STEEP):
            self.check(one, one, True)

    def test_on_the_same_water(self):
        # Ahead of one another on one way they stay apart; towards one another they meet half way.
        self.check(LEFT, stream(1, Fraction(3, 4), 1, Fraction(1, 2), Fraction(1, 4)), False)
        self.check(LEFT, stream(1, Fraction(3, 4), -1, Fraction(-1, 2), Fraction(1, 4)), True)
        self.check(LEFT, stream(TINY, height(LEFT, TINY), -1, TINY / 2 - 1, Fraction(1, 4)), True)
        self.check(stream(3, Fraction(3, 4), 1, Fraction(-1, 2), Fraction(1, 4)), MATE, True)
        self.check(stream(3, Fraction(3, 4), 1, Fraction(-1, 2), Fraction(1, 4)),
            stream(1, Fraction(3, 4), -1, Fraction(-1, 2), Fraction(1, 4)), False)

    def test_made_ones(self):
        maker = Maker(93)
        told = []
        for _ in range(700):
            one, other = made_pair(maker)
            if maker.random.random() < 0.6:
                other = made_to_meet(maker, one)
            told.append(drops_meet(one, other))
            found = meetings(one, other)
            if found is not None:
                words = [first_there(one, other, index) for index in range(len(found))]
                self.assertIs(told[-1], "both" in words, (one, other))
                self.assertLessEqual(words.count("both"), 1)
            else:
                self.assertIs(told[-1], one[1] != other[1] or one[0] == other[0])
            check_likewise(self, one, other)
        self.assertTrue(100 < told.count(True) < 600)

    def test_they_meet_where_roots_say_so(self):
        # With the bends 1 and 2 these come together just if what stands beside each root does.
        maker = Maker(94)
        for _ in range(100):
            slope, other_slope = number(maker.fraction()), number(maker.fraction())
            one = stream(0, 0, 1, slope, 1)
            right, up = number(maker.above_zero()), number(maker.fraction())
            self.assertIs(drops_meet(one, stream(right, up, -1, other_slope, 2)),
                up == slope * right and up == -other_slope * right)


def check_likewise(case, one, other):
    """All the same when they are exchanged, moved, mirrored, grown."""
    found, meet = meetings(one, other), drops_meet(one, other)
    words = [first_there(one, other, index) for index in range(len(found or ()))]
    case.assertEqual(meetings(other, one), found)
    case.assertIs(drops_meet(other, one), meet)
    case.assertEqual([first_there(other, one, index) for index in range(len(words))], [OTHERS[word] for word in words])
    change = (Fraction(-7, 3), Fraction(5, 2))
    rows = [
        ([moved(each, *change) for each in (one, other)],
         lambda right, up: (surd_plus(right, pair(change[0])), surd_plus(up, pair(change[1]))), 1),
        ([mirrored(each) for each in (one, other)], lambda right, up: (surd_times(right, (-1, 1)), up), -1),
        ([tall(each, Fraction(3, 5)) for each in (one, other)],
         lambda right, up: (surd_times(right, (3, 5)), surd_times(up, (3, 5))), 1),
    ]
    for pair_of_both, change_of, step in rows:
        expected = None if found is None else tuple([change_of(right, up) for right, up in found][::step])
        case.assertEqual(meetings(*pair_of_both), expected)
        case.assertIs(drops_meet(*pair_of_both), meet)
        told = [first_there(*pair_of_both, index) for index in range(len(words))]
        case.assertEqual(told, words[::step])


def made_stream(maker):
    place = point(number(maker.fraction()), number(maker.fraction()))
    return (place, maker.random.choice((1, -1)), maker.jet())


def made_pair(maker):
    """Two streams at random, often such that they touch, have water in common or a spout in each other's water."""
    one = made_stream(maker)
    kind = maker.random.randint(0, 5)
    if kind < 2:
        return one, made_stream(maker)
    begin = spout(one)[0]
    right = begin + one[1] * number(maker.fraction(0, 6)) * maker.random.choice((1, 1, 1, -1))
    slope, bend = number(one[2][0]), number(one[2][1])
    growth = slope - 2 * bend * one[1] * (right - begin)
    way = maker.random.choice((1, -1))
    if kind == 2:
        # The same water.
        return one, stream(right, height(one, right), way, one[1] * way * growth, bend)
    if kind == 3:
        return one, (point(right, height(one, right)), way, maker.jet())
    # Through one point of its water, as steep as it there, perhaps from elsewhere.
    other_bend, back = number(maker.above_zero()), number(maker.fraction(0, 4))
    steep = one[1] * way * growth if kind == 4 else number(maker.fraction())
    other_slope = steep + 2 * other_bend * back
    return one, stream(right - way * back, height(one, right) - other_slope * back + other_bend * back * back, way,
        other_slope, other_bend)


def made_to_meet(maker, one):
    """A stream whose drop is with that of the other one some time: at distances whose squares go as the bends."""
    begin, slope, bend = spout(one)[0], number(one[2][0]), number(one[2][1])
    ahead, share = number(maker.fraction(0, 6)), number(maker.above_zero())
    other_ahead, other_bend = ahead * share, bend / (share * share)
    right = begin + one[1] * ahead
    way, other_slope = maker.random.choice((1, -1)), number(maker.fraction())
    up = height(one, right) - other_slope * other_ahead + other_bend * other_ahead * other_ahead
    return stream(right - way * other_ahead, up, way, other_slope, other_bend)


if __name__ == "__main__":
    unittest.main()
