"""spoutlines.certificates (point 41 of the document)."""

import unittest
from fractions import Fraction

from spoutlines.certificates import (
    certify_ask, certify_edge, certify_guards, certify_jets, certify_meetings, certify_place,
)
from spoutlines.checker import accepts
from spoutlines.errors import InvalidGuards, InvalidIndex, InvalidStream, NotNearer
from spoutlines.fits import any_jet
from spoutlines.places import place_of
from spoutlines.streams import meetings
from tests.claims import OPPOSITES, OTHERS, is_right, is_so, made_parts
from tests.oracle import BIT, Maker, pair
from tests.samples import (
    ASK_ROW, ASKS_ROW, GROUND_ROW, GUARDS_ROW, HEAD_ROW, INDEX_ROW, LONG, NO_STREAMS, PLACE_ROW, STREAM_ROW, YARD,
    check_arguments, error_of,
)
from tests.test_streams import made_pair

ONE, TWO = (1, 1), (2, 1)
WALL, GATE, HIGH, RIM = ("over", (2, 1, 1)), ("under", (2, 1, 1)), ("over", (1, 1, 1)), (1, 0, 1)
LOFTY, EAVES = ("over", (4, 3, 1)), ("roof", (1, 1, 1), (3, 1, 1))
CURTAIN, BAR, POST = ("curtain", (1, 1, 2)), ("post", (12, 9, 16)), ("post", (1, 2, 2))
ARCH = ((1, 1), (1, 4))
LEFT, MATE = ((0, 0, 1), 1, ARCH), ((4, 0, 1), -1, ARCH)
FUNCTIONS = (certify_jets, certify_ask, certify_place, certify_guards, certify_edge)


def place(distance, height):
    return place_of(pair(distance), pair(height))


class CertificatesTest(unittest.TestCase):

    def check(self, function, parts, word):
        """The claim of this word, with a paper that is right and accepted, and not for the other claim of the two."""
        told = function(*parts)
        self.assertIs(told.__class__, tuple)
        self.assertEqual(len(told), 2)
        claim, paper = told
        self.assertEqual(claim, (word,) + parts)
        self.assertIs(accepts(claim, paper), True, (claim, paper))
        self.assertTrue(is_so(claim) and is_right(claim, paper))
        self.assertIs(accepts((OTHERS[word],) + parts, paper), False)
        self.assertEqual(function(*parts), told)

    def test_jets(self):
        self.check(certify_jets, (ONE, (HIGH,)), "no jet")
        self.check(certify_jets, (ONE, ()), "fits")
        self.check(certify_jets, (TWO, (WALL, EAVES)), "fits")
        self.check(certify_jets, (TWO, (WALL, EAVES, ("low", pair(1 - BIT)))), "no jet")
        self.check(certify_jets, (TWO, (WALL, ("dives", (0, 1), (0, 1)), ("climbs", (0, 1), (1, 1)))), "no jet")
        self.check(certify_jets, (ONE, (WALL,) * 8), "no jet")

    def test_asks(self):
        self.check(certify_ask, (TWO, (WALL,), ("dives", (2, 1), (0, 1))), "sure")
        self.check(certify_ask, (TWO, (WALL,), ("dives", (2, 1), pair(-BIT))), "not sure")
        self.check(certify_ask, (TWO, (WALL,), EAVES), "not sure")
        self.check(certify_ask, (TWO, (), ("low", TWO)), "sure")
        self.check(certify_ask, (TWO, (), ("low", pair(2 - BIT))), "not sure")
        self.check(certify_ask, (TWO, (), ("roof", (1, 2, 1), (3, 1, 1))), "sure")
        self.check(certify_ask, (TWO, (), ("roof", place(1, 2 - BIT), (3, 1, 1))), "not sure")
        self.check(certify_ask, (TWO, (WALL,), ("over", (1, 2, 1))), "not sure")
        self.check(certify_ask, ((4, 1), (LOFTY,) * 8, ("under", (4, 3, 1))), "sure")
        self.check(certify_ask, ((4, 1), (LOFTY,) * 8, ("quick", (1, 4))), "not sure")
        self.assertEqual(certify_ask((4, 1), (LOFTY,), ("quick", (1, 4)))[1], ((2, 1), (5, 16)))
        # The greatest slope is 3 + root(5), no fraction.
        for slope, word in ((8, "sure"), (5, "not sure")):
            self.check(certify_ask, ((3, 1), (WALL,), ("dives", (0, 1), (slope, 1))), word)

    def test_places(self):
        self.check(certify_place, (ONE, (), (4, 3, 4)), "wet")
        self.check(certify_place, (ONE, (), (1, 1, 1)), "dry")
        self.check(certify_place, (ONE, (), place(1, Fraction(3, 4) + BIT)), "dry")
        self.check(certify_place, (TWO, (WALL,) * 8, (2, 1, 1)), "wet")
        self.check(certify_place, (TWO, (WALL,) * 8, place(2, 1 - BIT)), "dry")

    def test_guards(self):
        self.check(certify_guards, (ONE, (), RIM, (POST,)), "guarded")
        self.check(certify_guards, (ONE, (), RIM, (CURTAIN,)), "let by")
        self.check(certify_guards, (ONE, (), RIM, (CURTAIN, BAR)), "guarded")
        self.check(certify_guards, (ONE, (("low", (9, 1)),) * 8, RIM, (CURTAIN,) * 7 + (BAR,)), "guarded")
        self.check(certify_guards, (ONE, (("low", (9, 1)),) * 8, RIM, (CURTAIN,) * 8), "let by")
        # Dry without them.
        self.check(certify_guards, (ONE, (), (1, 1, 1), (CURTAIN,)), "guarded")
        # One jet alone, with the slope 2, passes both.
        self.check(certify_guards, (ONE, (), RIM, (("post", (1, 1, 2)), CURTAIN)), "let by")

    def test_edges(self):
        self.check(certify_edge, (ONE, (), YARD, 1), "struck")
        self.check(certify_edge, (ONE, (("under", RIM),), YARD, 1), "unstruck")
        self.check(certify_edge, (ONE, (("under", RIM),), YARD, 0), "struck")
        self.check(certify_edge, ((4, 1), (), LONG[:8], 6), "struck")
        self.check(certify_edge, (pair(4 - BIT), (), LONG[:8], 6), "struck")
        self.check(certify_edge, (pair((7 - BIT) / 2), (), LONG[:8], 6), "unstruck")
        self.check(certify_edge, ((4, 1), (LOFTY,), ((3, 1, 1), (4, 3, 1)), 0), "unstruck")

    def test_no_good_jet_at_all(self):
        self.check(certify_jets, (ONE, (WALL,)), "no jet")
        self.check(certify_ask, (ONE, (WALL,), GATE), "sure")
        self.check(certify_ask, (ONE, (WALL,), EAVES), "sure")
        self.check(certify_place, (ONE, (WALL,), RIM), "dry")
        self.check(certify_guards, (ONE, (WALL,), RIM, (CURTAIN,)), "guarded")
        self.check(certify_edge, (ONE, (WALL,), YARD, 0), "unstruck")

    def test_meetings(self):
        for other, count in ((((4, 1, 1), -1, ((0, 1), (1, 4))), 1), (((0, 0, 1), 1, ((3, 1), (1, 1))), 2),
                             (((0, 1, 1), 1, ARCH), 0), (((0, 0, 1), -1, ((-1, 1), (1, 4))), 1)):
            claim, paper = certify_meetings(LEFT, other)
            self.assertEqual((claim, paper), (("meetings", LEFT, other, count), ()))
            self.assertIs(accepts(claim, paper), True)
            for wrong in {0, 1, 2, 3} - {count}:
                self.assertIs(accepts(claim[:3] + (wrong,), paper), False)

    def test_made_meetings(self):
        maker = Maker(151)
        told = {}
        for _ in range(200):
            one, other = made_pair(maker)
            found = meetings(one, other)
            if found is None:
                self.assertIs(error_of(certify_meetings, one, other).given, other)
                self.assertFalse(any([accepts(("meetings", one, other, count), ()) for count in range(4)]))
            else:
                claim, paper = certify_meetings(one, other)
                self.assertEqual((claim, paper), (("meetings", one, other, len(found)), ()))
                self.assertIs(accepts(claim, paper), True)
            told[None if found is None else len(found)] = True
        self.assertEqual(set(told), {None, 0, 1, 2})

    def test_streams_with_the_same_water(self):
        for one, other in ((LEFT, MATE), (MATE, LEFT), (LEFT, LEFT), (LEFT, ((2, 1, 1), 1, ((0, 1), (1, 4))))):
            for error in (error_of(certify_meetings, one, other), error_of(certify_meetings, other=other, stream=one)):
                self.assertIs(error.__class__, InvalidStream)
                self.assertIs(error.given, other)

    def test_made_ones(self):
        maker = Maker(152)
        told = {}
        for _ in range(200):
            for function, words, parts in zip(FUNCTIONS, OPPOSITES, made_parts(maker)):
                word = words[0] if is_so((words[0],) + parts) else words[1]
                told[word] = told.get(word, 0) + 1
                self.check(function, parts, word)
        self.assertEqual(set(told), set(OTHERS))
        self.assertGreater(min(told.values()), 20)

    def test_great_numbers(self):
        maker = Maker(153, 10 ** 30)
        for _ in range(12):
            for function, words, parts in zip(FUNCTIONS, OPPOSITES, made_parts(maker)):
                self.check(function, parts, words[0] if is_so((words[0],) + parts) else words[1])

    def test_very_great_numbers(self):
        great = 10 ** 399
        self.check(certify_edge, ((great, 1), (), ((great, 0, 1), (2 * great, 0, 1)), 0), "struck")
        self.check(certify_place, ((great, 1), (("over", (great, 1, 7)),), (great, 0, 1)), "wet")
        self.check(certify_ask, ((great, 1), (), ("low", pair(great - BIT))), "not sure")
        self.check(certify_guards, ((great, 1), (), (great, 0, 1), (("post", (1, great, great)),)), "guarded")
        self.assertIsNot(any_jet((great, 1), ()), None)

    def test_wrong_arguments(self):
        rows = [HEAD_ROW, ASKS_ROW]
        check_arguments(self, certify_jets, rows)
        check_arguments(self, certify_ask, rows + [ASK_ROW])
        check_arguments(self, certify_place, rows + [PLACE_ROW])
        check_arguments(self, certify_guards, rows + [PLACE_ROW, GUARDS_ROW])
        check_arguments(self, certify_edge, rows + [GROUND_ROW, INDEX_ROW])
        check_arguments(self, certify_meetings, [STREAM_ROW, ("other", MATE, InvalidStream, NO_STREAMS)])

    def test_what_is_told_last(self):
        for stand in (RIM, (2, 0, 1)):
            for asks in ((), (WALL,)):
                error = error_of(certify_guards, ONE, asks, RIM, (CURTAIN, ("post", stand)))
                self.assertIs(error.__class__, NotNearer)
                self.assertIs(error.given, stand)
            self.assertIs(error_of(certify_guards, ONE, (), RIM, (("post", stand), 0)).__class__, InvalidGuards)
        for index in (2, -1, True):
            self.assertIs(error_of(certify_edge, ONE, (WALL,), YARD, index).__class__, InvalidIndex)


if __name__ == "__main__":
    unittest.main()
