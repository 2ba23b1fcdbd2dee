"""spoutlines.checker (points 20 and 41 of the document)."""

import unittest
from fractions import Fraction

from spoutlines.certificates import (
    certify_ask, certify_edge, certify_guards, certify_jets, certify_meetings, certify_place,
)
from spoutlines.checker import accepts
from spoutlines.fits import any_jet, is_paper
from spoutlines.places import place_of
from tests.claims import OPPOSITES, OTHERS, is_right, is_so, made_parts
from tests.oracle import BIT, Maker, number, pair
from tests.samples import (
    ASKS, BELOW_ZERO, GROUNDS, JETS, LONG, NO_ASKS, NO_FRACTIONS, NO_JETS, NO_PLACES, NO_STREAMS, NO_WHOLES, STRANGE,
    TOUCHY, WRONG_ASKS, WRONG_GROUNDS, WRONG_GUARDS, YARD,
)

ONE, TWO = (1, 1), (2, 1)
WALL, HIGH, RIM = ("over", (2, 1, 1)), ("over", (1, 1, 1)), (1, 0, 1)
CURTAIN, BAR, POST = ("curtain", (1, 1, 2)), ("post", (12, 9, 16)), ("post", (1, 2, 2))
ARCH, TOP = ((1, 1), (1, 4)), ((2, 1), (5, 4))
LEFT, RIGHT = ((0, 0, 1), 1, ARCH), ((4, 1, 1), -1, ((0, 1), (1, 4)))
BACK, MATE = ((3, 0, 1), -1, ((2, 1), (1, 1))), ((4, 0, 1), -1, ARCH)
# 3 * x - x * x and x - x * x / 4 meet at 0 and at 8 / 3.
STEEP = ((0, 0, 1), 1, ((3, 1), (1, 1)))
NO_GOOD = ((1, 1), ((0, (0, 1), (4, 1)),))

# Claims that are so, each with a paper.
RIGHT_ONES = [
    (("fits", (3, 2), (HIGH,)), ((2, 1), (1, 1))),
    (("fits", TWO, ()), ARCH),
    (("no jet", ONE, (HIGH,)), NO_GOOD),
    (("no jet", ONE, (WALL,)), ((1, 1), ((0, (0, 1), (1, 1)),))),
    (("sure", TWO, (WALL,), ("dives", (2, 1), (0, 1))), ()),
    (("sure", ONE, (WALL,), ("low", (1, 9))), ()),
    (("not sure", TWO, (WALL,), ("low", ONE)), ((2, 1), (5, 8))),
    (("not sure", ONE, (), ("over", (1, 0, 1))), ((0, 1), (1, 1))),
    (("wet", ONE, (), (4, 3, 4)), TOP),
    (("dry", ONE, (), (1, 1, 1)), NO_GOOD),
    (("let by", ONE, (), RIM, (CURTAIN,)), ((1, 1), (1, 1))),
    (("guarded", ONE, (), RIM, (CURTAIN, BAR)), None),
    (("struck", ONE, (), YARD, 1), ((1, 1), (1, 2))),
    (("unstruck", ONE, (("under", RIM),), YARD, 1), ()),
    (("meetings", LEFT, BACK, 1), ()),
    (("meetings", LEFT, STEEP, 2), ()),
    (("meetings", LEFT, ((0, 1, 1), 1, ARCH), 0), ()),
]
# By hand, for the curtain, the bar and the rim: three times s / 4 - t / 2 + 1 / 2, four times 3 * t / 4 - 9 * s / 16
# - 9 / 16, and s - t, which is the last ask, half as often as the first: - 3 / 4.
BARRED = ((0, 1), ((0, (0, 1), (3, 1)), (1, (0, 1), (4, 1)), (3, (0, 1), (3, 2))))


def right_ones():
    """The claims that are so, with papers."""
    for claim, paper in RIGHT_ONES:
        yield claim, certify_guards(*claim[1:])[1] if paper is None else paper


def place(distance, height):
    return place_of(pair(distance), pair(height))


class AcceptsCase(unittest.TestCase):

    def check(self, claim, paper, told=True):
        self.assertIs(accepts(claim, paper), told, (claim, paper))
        self.assertIs(accepts(paper=paper, claim=claim), told)


class WordsTest(AcceptsCase):

    def test_what_is_so(self):
        for claim, paper in right_ones():
            self.check(claim, paper)

    def test_papers_of_other_claims(self):
        papers = [paper for _, paper in right_ones()]
        for claim, paper in right_ones():
            for other in papers + [((5, 1), (1, 9)), ((1, 1),), (paper,), ((), ()), [], None, claim]:
                # A paper of another claim may be one for this one, too, but only if it is right.
                if accepts(claim, other):
                    self.assertTrue(is_right(claim, other))

    def test_what_is_not_so(self):
        papers = [paper for _, paper in right_ones()] + [ARCH, TOP, BARRED]
        for claim, paper in right_ones():
            if claim[0] == "meetings":
                for count in (0, 1, 2, 3, -1):
                    self.check(claim[:3] + (count,), (), count == claim[3])
            else:
                for other in papers:
                    self.check((OTHERS[claim[0]],) + claim[1:], other, False)

    def test_good_jets(self):
        for jet, told in ((((2, 1), (1, 1)), True), (((2, 1), pair(1 + BIT)), False), (((2, 1), (5, 6)), True),
                          (((2, 1), pair(Fraction(5, 6) - BIT)), False), (((1, 1), (1, 2)), False), ((3, 1), False)):
            self.check(("fits", (3, 2), (HIGH,)), jet, told)
            self.check(("not sure", (3, 2), (HIGH,), ("low", (1, 9))), jet, told)
            self.check(("struck", (3, 2), (HIGH,), ((1, 0, 1), (9, 0, 1)), 0), jet, told)

    def test_jets_that_do_the_ask(self):
        # Over the rim just by touching.
        self.check(("not sure", ONE, (), ("over", RIM)), ((1, 1), (1, 1)), False)
        self.check(("not sure", ONE, (), ("over", RIM)), ((1, 1), pair(1 + BIT)))
        self.check(("not sure", ONE, (), ("roof", (1, 1, 1), (3, 1, 1))), ((1, 1), (1, 1)), False)
        self.check(("not sure", TWO, (), ("roof", (1, 1, 1), (3, 1, 1))), ARCH, False)
        self.check(("not sure", (3, 1), (), ("roof", (1, 1, 1), (3, 1, 1))), ((1, 1), pair(Fraction(1, 4) - BIT)))

    def test_jets_through_places(self):
        for jet, told in (((ONE, ONE), True), (((3, 1), (3, 1)), True), (((1, 1), pair(1 + BIT)), False),
                          (((1, 2), (1, 2)), True), (((1, 5), (1, 5)), False), (ARCH, False)):
            self.check(("wet", ONE, (), RIM), jet, told)
            self.check(("let by", ONE, (), RIM, (("curtain", place(Fraction(1, 2), 9)),)), jet, told)
        # Past the curtain slopes up to 2, past the bar from 3 on.
        for slope, curtain, bar in ((2, True, False), (3, False, True), (Fraction(5, 2), False, False)):
            jet = (pair(slope), pair(slope))
            self.check(("let by", ONE, (), RIM, (CURTAIN,)), jet, curtain)
            self.check(("let by", ONE, (), RIM, (BAR,)), jet, bar)
            self.check(("let by", ONE, (), RIM, (BAR, CURTAIN)), jet, False)

    def test_jets_that_strike(self):
        for jet, edge in ((((1, 1), (3, 4)), 0), (((1, 1), (1, 2)), 1), (((0, 1), (1, 1)), None), (ARCH, 1),
                          (((2, 1), (1, 2)), None)):
            for index in (0, 1):
                self.check(("struck", (3, 1), (), YARD, index), jet, index == edge)

    def test_weights(self):
        self.check(("no jet", ONE, (HIGH,)), ((1, 1), ((0, (0, 1), (3, 1)),)), False)
        self.check(("no jet", (3, 2), (HIGH,)), ((1, 1), ((0, (0, 1), (6, 1)),)), False)
        self.check(("guarded", ONE, (), RIM, (CURTAIN, BAR)), BARRED)
        self.check(("guarded", ONE, (), RIM, (BAR, CURTAIN)), BARRED, False)
        self.check(("guarded", ONE, (("low", (9, 1)),), RIM, (CURTAIN, BAR)), BARRED, False)
        self.check(("guarded", ONE, (), RIM, (CURTAIN, BAR, POST)), BARRED, False)
        # An index counts through the asks, the guards and the place.
        at = ("guarded", ONE, (("low", (9, 1)),) * 8, RIM, (POST,) * 8)
        paper = certify_guards(*at[1:])[1]
        self.check(at, paper)
        self.assertEqual({triple[0] for triple in paper[1]} - set(range(18)), set())
        self.check(at, (paper[0], tuple([(triple[0] - 1, *triple[1:]) for triple in paper[1]])), False)
        for index in (18, -1, 100):
            self.check(at, (paper[0], paper[1][:-1] + ((index,) + paper[1][-1][1:],)), False)

    def test_papers_that_are_papers(self):
        # What is_paper takes is accepted, and nothing else.
        for paper in (NO_GOOD, BARRED, (), ARCH, ((0, 1), ((0, (0, 1), (4, 1)),)), ((2, 1), ((0, (0, 1), (8, 1)),)),
                      ((1, 1), ((0, (0, 1), (2, 1)), (0, (0, 1), (2, 1)))), ((1, 1), ((0, (0, 1), (1, 1)),) * 4),
                      ((1, 1), ((0, (0, 1), (4, 5)),) * 5), ((1, 1), [(0, (0, 1), (4, 1))]), ((1, 1), ())):
            told = is_paper(ONE, (HIGH,), paper)
            self.check(("no jet", ONE, (HIGH,)), paper, told)
            self.check(("dry", ONE, (), (1, 1, 1)), paper, told)

    def test_no_good_jet_at_all(self):
        none = (ONE, (WALL,))
        for claim in (("sure",) + none + (WALL,), ("sure",) + none + (("low", (1, 9)),),
                      ("unstruck",) + none + (YARD, 0), ("unstruck",) + none + (YARD, 1)):
            self.check(claim, ())
        paper = ((1, 1), ((0, (0, 1), (1, 1)),))
        for claim in (("no jet",) + none, ("dry",) + none + (RIM,), ("guarded",) + none + (RIM, (POST,))):
            self.check(claim, paper)
        for jet in JETS + [ARCH, TOP]:
            for claim in (("fits",) + none, ("not sure",) + none + (WALL,), ("wet",) + none + (RIM,),
                          ("let by",) + none + (RIM, (POST,)), ("struck",) + none + (YARD, 0)):
                self.check(claim, jet, False)

    def test_meetings(self):
        rows = [(LEFT, RIGHT, 1), (LEFT, BACK, 1), (LEFT, STEEP, 2), (LEFT, MATE, None), (LEFT, LEFT, None),
            (LEFT, ((0, 0, 1), -1, ARCH), 1), (LEFT, ((0, 2, 1), 1, ARCH), 0)]
        for one, other, count in rows:
            for number_told in NO_WHOLES + [0, 1, 2, 3, -1, 10 ** 400]:
                right = number_told.__class__ is int and number_told == count
                self.check(("meetings", one, other, number_told), (), right)
                self.check(("meetings", other, one, number_told), (), right)
                self.check(("meetings", one, other, number_told), ARCH, False)

    def test_eight_of_all(self):
        guards, asks = (CURTAIN,) * 7 + (BAR,), (("low", (9, 1)),) * 8
        self.check(*certify_guards(ONE, asks, RIM, guards))
        self.check(("let by", ONE, asks, RIM, guards[:7] + (CURTAIN,)), ((2, 1), (2, 1)))
        self.check(("let by", ONE, asks + asks[:1], RIM, guards[:1]), ((2, 1), (2, 1)), False)
        self.check(("let by", ONE, asks, RIM, (CURTAIN,) * 9), ((2, 1), (2, 1)), False)
        self.check(("struck", (4, 1), (), LONG[:8], 6), ((1, 1), (2, 15)), True)
        self.check(("struck", (4, 1), (), LONG, 6), ((1, 1), (2, 15)), False)


class AnyValuesTest(AcceptsCase):

    def test_values_of_any_kind(self):
        for value in STRANGE + ["fits", 0, 1, 10 ** 400]:
            for other in STRANGE[:40] + [(), ARCH, NO_GOOD, TOUCHY]:
                self.check(value, other, False)
                self.check(other, value, False)

    def test_papers_of_any_kind(self):
        for claim, paper in right_ones():
            for value in STRANGE + [list(paper), (paper,), paper + (0,), paper[:-1] if paper else (0,), None, claim]:
                empty = isinstance(value, tuple) and not len(value)
                self.check(claim, value, empty and paper == ())

    def test_elements_left_out_added_or_exchanged(self):
        for claim, paper in right_ones():
            for at in range(len(claim)):
                self.check(claim[:at] + claim[at + 1:], paper, False)
                for value in (0, (), None, "fits", TOUCHY, ONE, RIM, WALL, (WALL,), ARCH):
                    self.check(claim[:at] + (value,) + claim[at:], paper, False)
            self.check(claim[::-1], paper, False)
            self.check(list(claim), paper, False)
            self.check((claim,), paper, False)
            self.check(claim + (paper,), paper, False)
            for word in ("", "Fits", "fits ", "nojet", "no  jet", "surely", b"fits", None, 0, TOUCHY, ("fits",),
                         ["fits"]):
                self.check((word,) + claim[1:], paper, False)

    def exchanged(self, at, values):
        """Each claim that is so and has this many elements ahead of this one, with each of these values there."""
        for claim, paper in right_ones():
            if len(claim) > at:
                for value in values:
                    yield claim, claim[:at] + (value,) + claim[at + 1:], paper

    def test_wrong_heads_and_asks(self):
        for claim, wrong, paper in self.exchanged(1, NO_FRACTIONS + [(0, 1)] + BELOW_ZERO):
            self.check(wrong, paper, False)
        for claim, wrong, paper in self.exchanged(2, [value for value, _ in WRONG_ASKS]):
            self.check(wrong, paper, False)

    def test_wrong_places_asks_grounds_and_streams(self):
        for claim, paper in right_ones():
            values = {"sure": NO_ASKS, "not sure": NO_ASKS, "wet": NO_PLACES, "dry": NO_PLACES, "let by": NO_PLACES,
                "guarded": NO_PLACES, "struck": [value for value, _ in WRONG_GROUNDS],
                "unstruck": [value for value, _ in WRONG_GROUNDS], "meetings": NO_WHOLES}.get(claim[0], [])
            for value in values:
                self.check(claim[:3] + (value,) + claim[4:], paper, False)
            if claim[0] == "meetings":
                for value in NO_STREAMS:
                    self.check(claim[:1] + (value,) + claim[2:], paper, False)
                    self.check(claim[:2] + (value,) + claim[3:], paper, False)

    def test_wrong_guards_and_indexes(self):
        for claim, paper in right_ones():
            if claim[0] in ("let by", "guarded"):
                for value, _ in WRONG_GUARDS:
                    self.check(claim[:4] + (value,), paper, False)
                for stand in (RIM, (2, 0, 1), (1, 5, 1)):
                    self.check(claim[:4] + (claim[4] + (("curtain", stand),),), paper, False)
                    self.check(claim[:4] + ((("post", stand),) + claim[4],), paper, False)
            if claim[0] in ("struck", "unstruck"):
                for value in NO_WHOLES + [-1, -2, 2, 3, 10 ** 400]:
                    self.check(claim[:4] + (value,), paper, False)

    def test_guards_that_are_not_nearer(self):
        # None that passes them comes there, but they are no guards of this place.
        for stand in (RIM, (2, 9, 1)):
            claim = ("guarded", ONE, (), RIM, (("post", stand), POST))
            self.check(claim, ((1, 1), ((1, (0, 1), (4, 1)),)), False)
            for paper in (NO_GOOD, BARRED, ()):
                self.check(claim, paper, False)
        self.check(("let by", ONE, (), RIM, (("curtain", (2, 0, 1)),)), ((1, 1), (1, 1)), False)

    def test_wrong_jets(self):
        for claim, paper in right_ones():
            if claim[0] in ("fits", "not sure", "wet", "let by", "struck"):
                for value in NO_JETS + [(paper[0], paper[1], paper[1]), (paper[0],), paper[0], list(paper)]:
                    self.check(claim, value, False)

    def test_wrong_weights(self):
        for claim, paper in right_ones():
            if claim[0] in ("no jet", "dry", "guarded"):
                share, parts = paper
                wrong = [(parts, share), (share,), (share, parts, parts), (share, ()), (share, list(parts)),
                    [share, parts], (share, parts + (parts[0],) * 4), (share, parts[0]), ((-1, 1), parts),
                    (None, parts), (1, parts)]
                for at, part in enumerate(parts):
                    for changed in ((part[0], part[1]), part + (0,), list(part), part[::-1], (True,) + part[1:],
                                    (part[0], (1, 1), part[2]), (part[0], part[1], (0, 1)), (part[0], part[1], (-1, 1)),
                                    (part[0], part[1], 1), (part[0], TOUCHY, part[2]), (TOUCHY,) + part[1:], TOUCHY):
                        wrong.append((share, parts[:at] + (changed,) + parts[at + 1:]))
                for value in wrong:
                    self.check(claim, value, False)

    def test_asks_and_grounds_of_all_kinds(self):
        for ask in ASKS:
            self.check(*certify_ask(TWO, (), ask))
            self.check(*certify_jets(TWO, (ask,)))
        for ground in GROUNDS:
            for index in range(len(ground) - 1):
                self.check(*certify_edge(TWO, (), ground, index))


class MadeOnesTest(AcceptsCase):

    def test_what_is_accepted_is_so(self):
        # All kinds of papers for both of two claims that exclude one another.
        maker = Maker(141)
        accepted = {}
        for _ in range(120):
            rows = made_parts(maker)
            papers = self.papers(maker, rows)
            for words, parts in zip(OPPOSITES, rows):
                seen = set()
                for word in words:
                    claim = (word,) + parts
                    for paper in papers:
                        told = accepts(claim, paper)
                        self.assertIn(told, (True, False))
                        if told:
                            self.assertTrue(is_so(claim) and is_right(claim, paper), (claim, paper))
                            seen.add(word)
                            accepted[word] = accepted.get(word, 0) + 1
                self.assertEqual(len(seen), 1, (words, parts))
        self.assertEqual(set(accepted), set(OTHERS))
        self.assertGreater(min(accepted.values()), 15)

    def papers(self, maker, rows):
        """The papers of the certificates, those a bit aside, and jets at random."""
        head, asks = rows[0]
        found = [function(*parts)[1] for function, parts in zip(
            (certify_jets, certify_ask, certify_place, certify_guards, certify_edge), rows)]
        jets = [maker.jet() for _ in range(3)] + [paper for paper in found if paper and isinstance(paper[1][0], int)]
        for slope, bend in list(jets):
            found += [(slope, bend), (slope, pair(number(bend) + BIT)), (pair(number(slope) - BIT), bend)]
        jet = any_jet(head, asks)
        for share, parts in [paper for paper in found if paper and not isinstance(paper[1][0], int)]:
            found += [(pair(number(share) + 1), parts), (share, parts[:1]), (share, parts + parts[:1]),
                (share, tuple([(index + 1, *more) for index, *more in parts]))]
        return found + [(), ((), ()), jet]

    def test_meetings_of_made_ones(self):
        maker = Maker(142)
        for _ in range(100):
            streams = [(tuple(maker.random.choice(((0, 0, 1), (1, -1, 2), (-3, 1, 1)))), maker.random.choice((1, -1)),
                maker.jet()) for _ in range(2)]
            told = [count for count in range(-1, 4) if accepts(("meetings", *streams, count), ())]
            if told:
                self.assertEqual(certify_meetings(*streams), (("meetings", *streams, told[0]), ()))
            self.assertLessEqual(len(told), 1)

    def test_wet_and_dry_places_touched(self):
        # Just at the greatest height that jets reach, and a bit above it.
        for distance in (1, 2, 3):
            top = 1 - Fraction(distance * distance, 4)
            for height, word in ((top, "wet"), (top + BIT, "dry")):
                claim, paper = certify_place(ONE, (), place(distance, height))
                self.assertEqual(claim[0], word)
                self.check(claim, paper)


if __name__ == "__main__":
    unittest.main()
