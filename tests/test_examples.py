"""The examples of the document, as they stand there: a line with `>>> `, and the answer below it."""

import unittest

JETS = r"""
>>> from spoutlines.jets import distances_at, head_left, head_of, height_at, jet_through, jet_with, landing, slope_at, time_square, top_of, word_at
>>> arch = ((1, 1), (1, 4))
>>> [height_at(arch, (1, 1)), slope_at(arch, (3, 1)), head_of(arch), head_left(arch, (2, 1)), top_of(arch), time_square(arch, (2, 1)), word_at(arch, (2, 1)), word_at(arch, (0, 1))]
[(3, 4), (-1, 2), (2, 1), (1, 1), (2, 1, 1), (1, 1), 'top', 'rises']
>>> [distances_at(arch, (3, 4)), distances_at(arch, (1, 1)), distances_at(arch, (2, 1)), landing(arch, (-5, 1)), landing(arch, (0, 1)), landing(((-1, 1), (1, 4)), (0, 1))]
[(((1, 1), 0, (0, 1)), ((3, 1), 0, (0, 1))), (((2, 1), 0, (0, 1)),), (), ((2, 1), 1, (24, 1)), ((4, 1), 0, (0, 1)), None]
>>> [jet_with((1, 1), (4, 0, 1)), jet_with((1, 2), (2, 1, 1)), jet_through((1, 3, 4), (3, 3, 4)), jet_through((4, 3, 4), (12, 3, 4)), jet_through((1, 1, 1), (2, 2, 1))]
[((1, 1), (1, 4)), None, ((4, 1), (4, 1)), ((1, 1), (1, 4)), None]
"""
ASKS = r"""
>>> from spoutlines.asks import bound_at, bound_parts, does, does_all, grown_ask, is_ask, is_good, row_of, sheared_ask
>>> wall, gate, eaves = ("over", (2, 1, 1)), ("under", (2, 1, 1)), ("roof", (1, 1, 1), (3, 1, 1))
>>> [does(arch, wall), does(arch, ("over", (1, 1, 1))), does(arch, eaves), does(arch, ("roof", (10, 9, 10), (30, 9, 10))), does(arch, ("dives", (2, 1), (0, 1))), does(arch, ("quick", (1, 5))), does_all(arch, (wall, gate, eaves)), is_good(arch, (19, 10), (wall,))]
[True, False, True, False, True, False, True, False]
>>> [bound_at(wall, (1, 1)), bound_at(eaves, (1, 1)), bound_at(eaves, (3, 1)), bound_at(eaves, (0, 1)), bound_at(("climbs", (0, 1), (1, 2)), (0, 1)), bound_at(("dives", (2, 1), (0, 1)), (1, 1))]
[('most', (1, 4)), ('least', (1, 4)), ('least', (2, 1)), ('least', (-1, 9)), ('none', None), ('least', (1, 4))]
>>> bound_parts(eaves)
((None, (2, 3), ((-1, 9), (1, 3), (0, 1))), ((2, 3), (2, 1), ((0, 1), (0, 1), (1, 4))), ((2, 1), None, ((-1, 1), (1, 1), (0, 1))))
>>> [row_of(wall, (0, 1)), row_of(eaves, (2, 1)), grown_ask(eaves, (1, 2)), sheared_ask(("dives", (2, 1), (0, 1)), (1, 3)), is_ask(("roof", (3, 1, 1), (1, 1, 1))), is_ask(("slow", (0, 1))), does(arch, ("low", (1, 1))), bound_parts(("low", (1, 1)))]
[((2, 1), (-4, 1), (-1, 1)), ((-2, 1), (4, 1), (1, 1)), ('roof', (1, 1, 2), (3, 1, 2)), ('dives', (2, 1), (1, 3)), False, False, True, ((None, (0, 1), ((0, 1), (0, 1), (0, 1))), ((0, 1), None, ((0, 1), (0, 1), (1, 4))))]
"""
FITS = r"""
>>> from spoutlines.fits import any_jet, barred, how_many, is_paper, weights
>>> lofty, dip = ("over", (4, 3, 1)), ("under", (2, 1, 2))
>>> [how_many((2, 1), (wall,)), how_many((1, 1), (wall,)), how_many((4, 1), (lofty,)), how_many((2, 1), (wall, eaves)), how_many((3, 1), (wall, eaves)), how_many((1, 9), ())]
['many', 'none', 'one', 'one', 'one', 'many']
>>> [any_jet((4, 1), (lofty,)), any_jet((2, 1), (eaves, wall)), any_jet((1, 1), (wall,)), weights((2, 1), (wall,))]
[((2, 1), (5, 16)), ((1, 1), (1, 4)), None, None]
>>> [barred((1, 1), (gate, wall)), barred((2, 1), (eaves, wall, dip)), barred((2, 1), (wall, eaves)), barred((2, 1), (wall, ("low", (1, 2))))]
[(1,), (1, 2), None, (0, 1)]
>>> [is_paper((1, 1), (wall,), ((1, 1), ((0, (0, 1), (1, 1)),))), is_paper((1, 1), (wall,), ((1, 1), ((0, (0, 1), (1, 2)),))), is_paper((2, 1), (wall,), ((1, 2), ((0, (0, 1), (1, 1)),))), is_paper((2, 1), (wall,), ())]
[True, False, False, False]
>>> is_paper((1, 1), (wall,), weights((1, 1), (wall,)))
True
"""
RANGES = r"""
>>> from spoutlines.ranges import bend_range, bends_with, height_range, slope_range, slope_range_at
>>> [slope_range((2, 1), (wall,)), slope_range((3, 1), (wall,)), slope_range((2, 1), ()), slope_range((2, 1), (("dives", (0, 1), (1, 2)),))]
[(((1, 1), 0, (0, 1)), ((3, 1), 0, (0, 1))), (((3, 1), -1, (5, 1)), ((3, 1), 1, (5, 1))), (None, None), (None, ((1, 2), 0, (0, 1)))]
>>> [bend_range((2, 1), (wall,)), bend_range((3, 1), (wall,)), bend_range((2, 1), ())]
[(((1, 4), 0, (0, 1)), ((5, 4), 0, (0, 1))), (((5, 4), -1, (5, 4)), ((5, 4), 1, (5, 4))), (((1, 8), 0, (0, 1)), None)]
>>> [height_range((2, 1), (wall,), (1, 1)), height_range((2, 1), (wall,), (4, 1)), height_range((3, 1), (wall,), (2, 1)), height_range((2, 1), (), (2, 1))]
[(((3, 4), 0, (0, 1)), ((7, 4), 0, (0, 1))), (((-8, 1), 0, (0, 1)), ((0, 1), 0, (0, 1))), (((1, 1), 0, (0, 1)), ((8, 3), 0, (0, 1))), (None, ((3, 2), 0, (0, 1)))]
>>> [slope_range_at((2, 1), (wall,), (2, 1)), bends_with((2, 1), (wall,), (2, 1)), bends_with((2, 1), (wall,), (0, 1)), bends_with((2, 1), (), (2, 1))]
[(((-2, 1), 0, (0, 1)), ((0, 1), 0, (0, 1))), ((5, 8), (3, 4)), None, ((5, 8), None)]
"""
SAYINGS = r"""
>>> from spoutlines.sayings import entails, kept_asks, needless_asks, say_the_same, status_of
>>> level = ("dives", (2, 1), (0, 1))
>>> [status_of((2, 1), (wall,), ("over", (4, 3, 4))), status_of((2, 1), (wall,), ("over", (1, 1, 1))), status_of((2, 1), (wall,), ("over", (1, 2, 1))), status_of((2, 1), (wall,), level), status_of((2, 1), (wall,), ("climbs", (2, 1), (-1, 1))), status_of((2, 1), (wall,), ("quick", (5, 4))), status_of((2, 1), (wall,), eaves)]
['sure', 'open', 'never', 'sure', 'open', 'sure', 'open']
>>> [needless_asks((2, 1), (wall, level)), needless_asks((2, 1), (wall, wall)), kept_asks((2, 1), (wall, wall)), kept_asks((2, 1), (level, wall)), kept_asks((1, 1), (gate, wall))]
[(1,), (0, 1), (0,), (1,), (1,)]
>>> [entails((2, 1), (wall,), (level,)), entails((2, 1), (level,), (wall,)), entails((1, 1), (wall,), (gate, eaves)), say_the_same((2, 1), (wall,), (level, wall)), say_the_same((2, 1), (wall, eaves), (wall, gate))]
[True, False, True, True, False]
"""
HEADS = r"""
>>> from spoutlines.heads import farthest, head_through, least_head, reach, sure_up_to
>>> [least_head((wall,)), least_head((lofty,)), least_head((gate,)), least_head((wall, dip)), least_head((wall, eaves)), least_head((wall, ("dives", (0, 1), (3, 2))))]
[(((1, 2), 1, (5, 4)), True), (((4, 1), 0, (0, 1)), True), (((0, 1), 0, (0, 1)), False), None, (((2, 1), 0, (0, 1)), True), (((13, 8), 0, (0, 1)), True)]
>>> [head_through((4, 3, 1)), head_through((2, 1, 1)), reach((2, 1), (4, 1)), reach((2, 1), (2, 1)), farthest((2, 1), (0, 1)), farthest((2, 1), (1, 1)), farthest((2, 1), (2, 1))]
[((4, 1), 0, (0, 1)), ((1, 2), 1, (5, 4)), (0, 1), (3, 2), ((4, 1), 0, (0, 1)), ((0, 1), 1, (8, 1)), None]
>>> [sure_up_to((wall,), ("under", (1, 2, 1))), sure_up_to((wall,), level), sure_up_to((), ("under", (4, 3, 1))), sure_up_to((), wall), sure_up_to((wall,), ("over", (2, 1, 2)))]
[('up to', ((53, 24), 0, (0, 1))), ('up to', ((2, 1), 0, (0, 1))), ('up to', ((4, 1), 0, (0, 1))), ('none', None), ('all', None)]
"""
WETNESS = r"""
>>> from spoutlines.wetness import is_wet, jet_to, piece_side, side_of, slopes_to
>>> [is_wet((1, 1), (), (1, 1, 1)), is_wet((1, 1), (), (4, 3, 4)), jet_to((1, 1), (), (4, 3, 4)), jet_to((1, 1), (), (1, 1, 1))]
[False, True, ((2, 1), (5, 4)), None]
>>> [slopes_to((1, 1), (), (4, 3, 4)), slopes_to((1, 1), (), (1, 0, 1)), slopes_to((1, 1), (("over", (1, 1, 2)),), (1, 0, 1))]
[(((2, 1), 0, (0, 1)), ((2, 1), 0, (0, 1))), (((2, 1), -1, (3, 1)), ((2, 1), 1, (3, 1))), (((2, 1), 0, (0, 1)), ((2, 1), 1, (3, 1)))]
>>> [side_of((1, 1), (), (1, 1, 1)), side_of((1, 1), (), (1, -9, 1)), side_of((1, 1), (("over", (2, 1, 2)),), (2, 1, 4))]
['under', 'wet', 'over']
>>> [piece_side((1, 1), (), (1, 1, 1), (2, 1, 1)), piece_side((1, 1), (), (1, 0, 1), (2, 0, 1)), piece_side((1, 1), (("over", (2, 1, 2)),), (2, 1, 4), (4, 1, 4)), piece_side((1, 1), (("under", (1, 1, 4)),), (5, 6, 20), (35, 6, 20))]
['under', 'meets', 'over', 'meets']
>>> piece_side((1, 1), (("over", (1, 1, 1)),), (1, 0, 1), (2, 0, 1))
raises NoJetFits()
"""
GROUNDS = r"""
>>> from spoutlines.grounds import farthest_strike, ground_word, ground_words, jet_striking, nearest_strike, strike_distance, strike_edge, strikes_up_to, struck_edges
>>> yard = ((1, 0, 1), (2, 0, 1), (3, 1, 1))
>>> [ground_word(((0, 1), (1, 4)), yard), ground_word(((1, 1), (3, 4)), yard), ground_word(((2, 1), (1, 2)), yard), ground_word(((1, 1), (1, 2)), yard)]
['short', 'strikes', 'past', 'strikes']
>>> [strike_edge(((1, 1), (3, 4)), yard), strike_distance(((1, 1), (3, 4)), yard), strike_edge(arch, yard), strike_distance(arch, yard), strike_distance(((1, 1), (1, 2)), yard), strike_edge(((2, 1), (1, 2)), yard)]
[0, ((4, 3), 0, (0, 1)), 1, ((0, 1), 1, (8, 1)), ((2, 1), 0, (0, 1)), None]
>>> [ground_words((1, 1), (), yard), struck_edges((1, 1), (), yard), jet_striking((1, 1), (), yard, 1), struck_edges((1, 1), (("under", (1, 0, 1)),), yard)]
[('short', 'strikes'), (0, 1), ((1, 1), (1, 2)), (0,)]
>>> [nearest_strike((1, 1), (), yard, 0, 10), farthest_strike((1, 1), (), yard, 0, 10), nearest_strike((2, 1), (), yard, 1, 10), farthest_strike((2, 1), (), yard, 1, 10), strikes_up_to((2, 1), (), yard, 1, (5, 2)), strikes_up_to((1, 1), (), yard, 0, (1, 2))]
[(10, True), (20, True), (20, True), (29, False), True, False]
"""
GUARDS = r"""
>>> from spoutlines.guards import fewest_guards, greatest_curtain, is_guarded, least_post
>>> post, curtain, bar = ("post", (1, 2, 2)), ("curtain", (1, 1, 2)), ("post", (12, 9, 16))
>>> [least_post((1, 1), (), (1, 0, 1), (1, 2)), greatest_curtain((1, 1), (), (1, 0, 1), (1, 2)), least_post((1, 1), (), (1, 1, 1), (1, 2))]
[((1, 2), 1, (3, 16)), ((1, 2), -1, (3, 16)), None]
>>> [is_guarded((1, 1), (), (1, 0, 1), (post,)), is_guarded((1, 1), (), (1, 0, 1), (curtain,)), is_guarded((1, 1), (), (1, 0, 1), (curtain, bar))]
[True, False, True]
>>> [fewest_guards((1, 1), (), (1, 0, 1), (curtain, bar)), fewest_guards((1, 1), (), (1, 0, 1), (curtain, post)), fewest_guards((1, 1), (), (1, 0, 1), (curtain,)), fewest_guards((1, 1), (), (1, 1, 1), (curtain,))]
[(0, 1), (1,), None, ()]
"""
STREAMS = r"""
>>> from spoutlines.streams import drops_meet, first_there, is_stream, meetings, water_at
>>> left, right, back = ((0, 0, 1), 1, arch), ((4, 1, 1), -1, ((0, 1), (1, 4))), ((3, 0, 1), -1, ((2, 1), (1, 1)))
>>> steep, mate = ((0, 2, 1), 1, ((0, 1), (1, 1))), ((4, 0, 1), -1, arch)
>>> [water_at(left, (2, 1)), water_at(left, (-1, 1)), meetings(left, right), first_there(left, right, 0)]
[(1, 1), None, ((((3, 1), 0, (0, 1)), ((3, 4), 0, (0, 1))),), 'other']
>>> [meetings(left, steep), first_there(left, steep, 0), meetings(left, back), first_there(left, back, 0), meetings(left, mate)]
[((((-2, 3), 1, (28, 9)), ((-14, 9), 1, (448, 81))),), 'first', ((((2, 1), 0, (0, 1)), ((1, 1), 0, (0, 1))),), 'both', None]
>>> [drops_meet(left, right), drops_meet(left, back), drops_meet(left, mate), drops_meet(left, left), is_stream(((0, 0, 1), 0, arch))]
[False, True, True, True, False]
"""
SWEEPS = r"""
>>> from spoutlines.sweeps import jet_between, shares_good, shares_wet, swept_edges, swept_words
>>> low, high = ((1, 1), (1, 2)), ((3, 1), (5, 2))
>>> [jet_between(low, high, (1, 2)), shares_wet(low, high, (2, 1, 2)), shares_wet(low, high, (2, -1, 1)), shares_wet(low, high, (2, 1, 1))]
[((2, 1), (3, 2)), ((0, 1), (1, 1)), ((1, 4), (1, 4)), None]
>>> [shares_good(low, high, (1, 1), (("over", (2, 1, 2)),)), shares_good(low, high, (9, 10), ()), shares_good(low, high, (4, 5), ())]
[(((0, 1), 0, (0, 1)), ((1, 1), 0, (0, 1))), (((2, 5), -1, (11, 100)), ((2, 5), 1, (11, 100))), None]
>>> [swept_words(low, high, yard), swept_edges(low, high, yard), swept_words(low, ((0, 1), (1, 4)), yard)]
[('strikes',), (0, 1), ('short', 'strikes')]
"""
CONSOLES = r"""
>>> from spoutlines.consoles import Console
>>> from spoutlines.workshops import Workshop
>>> shop = Workshop()
>>> console = Console(shop)
>>> [console.say("put tap: 1/1; over 1 1 2"), console.say("names"), console.say("spout tap"), console.say("side tap: 1 1 1"), console.say("side tap: 1 0 1"), console.say("say tap: climbs 0/1 1/1"), console.say("say tap: over 1 1 1")]
['done', 'tap', '1/1; over 1 1 2', 'under', 'wet', 'sure', 'never']
>>> shop.wish(("wet", "tap", (1, 0, 1)))
>>> console.say("put tap: 1/2; over 1 1 2")
raises Broken(index=0)
>>> shop.wish(("unstruck", "tap", yard, 0))
raises Broken(index=1)
>>> shop.wish(("unstruck", "tap", yard, 1))
>>> [len(shop), shop.names, console.say("undo"), console.say("undo"), console.say("put tap: 1/2; over 1 1 2"), console.say("side tap: 1 0 1")]
[3, ('tap',), 'done', 'done', 'done', 'none']
"""
CERTIFICATES = r"""
>>> from spoutlines.checker import accepts
>>> from spoutlines.certificates import certify_edge, certify_jets, certify_meetings, certify_place
>>> high = (("over", (1, 1, 1)),)
>>> [accepts(("no jet", (1, 1), high), ((1, 1), ((0, (0, 1), (4, 1)),))), accepts(("no jet", (1, 1), high), ((1, 1), ((0, (0, 1), (3, 1)),))), accepts(("no jet", (3, 2), high), ((1, 1), ((0, (0, 1), (6, 1)),))), accepts(("fits", (3, 2), high), ((2, 1), (1, 1)))]
[True, False, False, True]
>>> [accepts(("dry", (1, 1), (), (1, 1, 1)), ((1, 1), ((0, (0, 1), (4, 1)),))), accepts(("wet", (1, 1), (), (4, 3, 4)), ((2, 1), (5, 4))), accepts(("struck", (1, 1), (), yard, 1), ((1, 1), (1, 2))), accepts(("unstruck", (1, 1), (), yard, 1), ()), accepts(("meetings", left, back, 1), ())]
[True, True, True, False, True]
>>> [certify_jets((1, 1), high)[0], certify_place((1, 1), (), (1, 1, 1))[0], certify_edge((1, 1), (("under", (1, 0, 1)),), yard, 1), certify_meetings(left, right)[0][3]]
[('no jet', (1, 1), (('over', (1, 1, 1)),)), ('dry', (1, 1), (), (1, 1, 1)), (('unstruck', (1, 1), (('under', (1, 0, 1)),), ((1, 0, 1), (2, 0, 1), (3, 1, 1)), 1), ()), 1]
"""


class ExamplesTest(unittest.TestCase):

    def check_examples(self, *blocks):
        """Run them one after another, as later ones use the names of those before."""
        names = {}
        checked = 0
        for block in blocks:
            lines = block.strip().split("\n")
            for line, answer in zip(lines, lines[1:] + [">>> "]):
                if line.startswith(">>> ") and answer.startswith(">>> "):
                    exec(line[4:], names)
                elif line.startswith(">>> "):
                    self.assertEqual(self.answer_to(line[4:], names), answer, line)
                    checked += 1
        self.assertGreater(checked, 0)

    def answer_to(self, call, names):
        try:
            return repr(eval(call, names))
        except ValueError as error:
            told = ", ".join([f"{key}={value!r}" for key, value in vars(error).items()])
            return f"raises {error.__class__.__name__}({told})"

    def test_jets(self):
        self.check_examples(JETS)

    def test_asks(self):
        self.check_examples(JETS, ASKS)

    def test_fits(self):
        self.check_examples(JETS, ASKS, FITS)

    def test_ranges(self):
        self.check_examples(JETS, ASKS, FITS, RANGES)

    def test_sayings(self):
        self.check_examples(JETS, ASKS, FITS, SAYINGS)

    def test_heads(self):
        self.check_examples(JETS, ASKS, FITS, SAYINGS, HEADS)

    def test_wetness(self):
        self.check_examples(JETS, ASKS, FITS, WETNESS)

    def test_grounds(self):
        self.check_examples(JETS, GROUNDS)

    def test_guards(self):
        self.check_examples(GUARDS)

    def test_streams(self):
        self.check_examples(JETS, STREAMS)

    def test_sweeps(self):
        self.check_examples(JETS, GROUNDS, SWEEPS)

    def test_workshops_and_consoles(self):
        self.check_examples(JETS, GROUNDS, CONSOLES)

    def test_checker_and_certificates(self):
        self.check_examples(JETS, GROUNDS, STREAMS, CERTIFICATES)

    def test_all_of_them_one_after_another(self):
        self.check_examples(
            JETS, ASKS, FITS, RANGES, SAYINGS, HEADS, WETNESS, GROUNDS, GUARDS, STREAMS, SWEEPS, CONSOLES, CERTIFICATES)


if __name__ == "__main__":
    unittest.main()
