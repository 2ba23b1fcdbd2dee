"""What jets do, reckoned by other ways than those of the program, and asks and places made at random.

Numbers are Fractions here; `pair` and `number` lead to the pairs of the program and back.
"""

import random
from fractions import Fraction
from math import isqrt

from spoutlines.places import place_of
from spoutlines.ranges import bends_with, slope_range

WORDS = ("over", "under", "roof", "low", "dives", "climbs", "quick", "slow")
UPPER = ("over", "climbs", "quick")
SCALE = 10 ** 40
# The ends of ranges are looked at so far off.
BIT = Fraction(1, 10 ** 12)


def pair(value):
    made = Fraction(value)
    return (made.numerator, made.denominator)


def number(fraction):
    return Fraction(*fraction)


def number_below(surd):
    """A Fraction that is less than the surd by 1 / SCALE at most, or it if it is a fraction."""
    part, way, square = surd
    root = isqrt(square[0] * SCALE * SCALE // square[1])
    return Fraction(*part) + (Fraction(root, SCALE) if way == 1 else way * Fraction(root + 1, SCALE))


def distance_and_height(place):
    return Fraction(place[0], place[2]), Fraction(place[1], place[2])


def height(jet, distance):
    return number(jet[0]) * distance - number(jet[1]) * distance * distance


def slope(jet, distance):
    return number(jet[0]) - 2 * number(jet[1]) * distance


def head(jet):
    return (1 + number(jet[0]) ** 2) / (4 * number(jet[1]))


def heights_over(jet, place, other):
    """The heights of the jet over the straight way between both places: at its ends, and the greatest one."""
    (near, near_height), (far, far_height) = distance_and_height(place), distance_and_height(other)
    rise = (far_height - near_height) / (far - near)
    top = (number(jet[0]) - rise) / (2 * number(jet[1]))
    looked_at = [near, far] + ([top] if near < top < far else [])
    heights = [height(jet, distance) - near_height - rise * (distance - near) for distance in looked_at]
    return heights[0], heights[1], max(heights)


def does(jet, ask):
    word = ask[0]
    if word in ("over", "under"):
        distance, least = distance_and_height(ask[1])
        told = height(jet, distance) - least
        return told >= 0 if word == "over" else told <= 0
    if word == "roof":
        return heights_over(jet, ask[1], ask[2])[2] <= 0
    if word == "low":
        top = max(Fraction(0), number(jet[0]) / (2 * number(jet[1])))
        return height(jet, top) <= number(ask[1])
    if word in ("dives", "climbs"):
        told = slope(jet, number(ask[1])) - number(ask[2])
        return told <= 0 if word == "dives" else told >= 0
    told = number(jet[1]) - number(ask[1])
    return told <= 0 if word == "quick" else told >= 0


def is_good(jet, of_head, asks):
    return number(jet[1]) > 0 and head(jet) <= number(of_head) and all(does(jet, ask) for ask in asks)


def row(ask, distance):
    """(p, q, r) as point 16 of the document tells it; None where the distance is none for this ask."""
    word, x = ask[0], number(distance)
    if word == "roof":
        (near, near_height), (far, far_height) = distance_and_height(ask[1]), distance_and_height(ask[2])
        y = near_height + (far_height - near_height) * (x - near) / (far - near)
        return (-x, x * x, y) if near <= x <= far else None
    if word == "low":
        return (-x, x * x, number(ask[1])) if x > 0 else None
    if x != 0:
        return None
    if word in ("over", "under"):
        x, y = distance_and_height(ask[1])
        told = (x, -x * x, -y)
    elif word in ("dives", "climbs"):
        told = (1, -2 * number(ask[1]), -number(ask[2]))
    else:
        told = (0, -1, number(ask[1]))
    return told if word in UPPER else tuple([-one for one in told])


def settles(of_head, asks, paper):
    """Whether the paper, which has the form of one, shows that no jet is good."""
    share, parts = number(paper[0]), paper[1]
    slopes, bends, rest = Fraction(0), 4 * number(of_head) * share, -share
    if share < 0 or not 1 <= len(parts) <= 4:
        return False
    for index, distance, weight in parts:
        told = row(asks[index], distance)
        if told is None or number(weight) <= 0:
            return False
        slopes, bends, rest = [
            one + number(weight) * other for one, other in zip((slopes, bends, rest), told)]
    if bends != 0:
        return False
    return rest < 0 and slopes == 0 if share == 0 else slopes * slopes + 4 * share * rest < 0


def highest_jets(of_head, asks, many):
    """For so many slopes in a row the good jet that is the highest one."""
    low, high = slope_range(of_head, asks)
    low = Fraction(-20) if low is None else number_below(low)
    high = max(low, Fraction(100)) if high is None else number_below(high)
    for at in range(many + 1):
        at_slope = pair(low + (high - low) * Fraction(at, many))
        bends = bends_with(of_head, asks, at_slope)
        if bends is not None:
            yield (at_slope, bends[0])


class Maker:
    """Makes values at random, the same ones for the same seed; with a greater unit their numbers are greater."""

    def __init__(self, seed, unit=1):
        self.random = random.Random(seed)
        self.unit = unit

    def fraction(self, low=-6, high=6, most=4):
        bits = [self.random.randint(0, self.unit - 1) for _ in range(2)]
        upper, lower = self.random.randint(low, high), self.random.randint(1, most)
        return pair(Fraction(upper * self.unit + bits[0], lower * self.unit + bits[1]))

    def above_zero(self, high=6):
        return self.fraction(1, high)

    def place(self):
        return place_of(self.above_zero(), self.fraction())

    def places(self):
        """Two places, the second one farther."""
        place = self.place()
        distance = number((place[0], place[2])) + number(self.above_zero())
        return place, place_of(pair(distance), self.fraction())

    def jet(self):
        return (self.fraction(), self.above_zero())

    def ask(self, words=WORDS):
        word = self.random.choice(words)
        if word in ("over", "under"):
            return (word, self.place())
        if word == "roof":
            return (word, *self.places())
        if word in ("dives", "climbs"):
            return (word, self.random.choice([(0, 1), self.above_zero(), self.above_zero()]), self.fraction())
        return (word, self.above_zero())

    def asks(self, most=4):
        return tuple([self.ask() for _ in range(self.random.randint(0, most))])

    def touched(self, jet):
        """An ask that the jet just does."""
        word = self.random.choice(WORDS)
        distance = number(self.above_zero())
        if word in ("over", "under"):
            return (word, self.place_on(jet, distance))
        if word == "roof":
            return self.touched_roof(jet, distance)
        if word in ("dives", "climbs"):
            distance = self.random.choice([Fraction(0), distance])
            return (word, pair(distance), pair(slope(jet, distance)))
        if word == "low" and jet[0][0] > 0:
            return (word, pair(height(jet, number(jet[0]) / (2 * number(jet[1])))))
        return (self.random.choice(("quick", "slow")), jet[1])

    def place_on(self, jet, distance):
        return place_of(pair(distance), pair(height(jet, distance)))

    def touched_roof(self, jet, distance):
        """A roof that the jet touches at this distance, its begin or within."""
        rise = slope(jet, distance)
        before = self.random.choice([Fraction(0), distance / 2])
        if before == 0:
            rise += number(self.fraction(0, 6))
        ends = [distance - before, distance + number(self.above_zero())]
        return ("roof", *[place_of(pair(end), pair(height(jet, distance) + rise * (end - distance))) for end in ends])

    def task(self):
        """A head and asks, often such that few jets are good."""
        if self.random.random() < 0.5:
            return self.above_zero(8), self.asks()
        jet = self.jet()
        more = self.random.choice([0, 0, 1])
        asks = [self.touched(jet) for _ in range(self.random.randint(1, 4))]
        return pair(head(jet) + more), tuple(asks + [self.ask() for _ in range(self.random.choice([0, 0, 1]))])
