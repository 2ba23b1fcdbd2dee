"""The interface: which functions stand in which file, with which parameters."""

import inspect
import unittest

from spoutlines import asks, fits, heads, jets, numbers, places, ranges, sayings, wetness

NUMBERS = {
    "is_fraction": ["value"],
    "is_surd": ["value"],
    "surd_of": ["part", "factor", "fraction"],
    "surd_plus": ["surd", "fraction"],
    "surd_times": ["surd", "fraction"],
    "compare": ["surd", "other"],
    "near": ["surd", "many"],
}
PLACES = {
    "is_point": ["value"],
    "is_place": ["value"],
    "place_of": ["distance", "height"],
    "distance_of": ["place"],
    "height_of": ["place"],
    "grown": ["place", "fraction"],
    "sheared": ["place", "fraction"],
    "seen_from": ["point", "way", "other"],
}
JETS = {
    "is_jet": ["value"],
    "height_at": ["jet", "distance"],
    "slope_at": ["jet", "distance"],
    "time_square": ["jet", "distance"],
    "head_of": ["jet"],
    "head_left": ["jet", "distance"],
    "word_at": ["jet", "distance"],
    "top_of": ["jet"],
    "distances_at": ["jet", "height"],
    "landing": ["jet", "height"],
    "jet_with": ["slope", "place"],
    "jet_through": ["place", "other"],
    "grown_jet": ["jet", "fraction"],
    "sheared_jet": ["jet", "fraction"],
}
ASKS = {
    "is_ask": ["value"],
    "does": ["jet", "ask"],
    "does_all": ["jet", "asks"],
    "is_good": ["jet", "head", "asks"],
    "bound_at": ["ask", "slope"],
    "bound_parts": ["ask"],
    "row_of": ["ask", "distance"],
    "grown_ask": ["ask", "fraction"],
    "sheared_ask": ["ask", "fraction"],
}
FITS = {
    "how_many": ["head", "asks"],
    "any_jet": ["head", "asks"],
    "barred": ["head", "asks"],
    "weights": ["head", "asks"],
    "is_paper": ["head", "asks", "value"],
}
RANGES = {
    "slope_range": ["head", "asks"],
    "bend_range": ["head", "asks"],
    "height_range": ["head", "asks", "distance"],
    "slope_range_at": ["head", "asks", "distance"],
    "bends_with": ["head", "asks", "slope"],
}
SAYINGS = {
    "status_of": ["head", "asks", "ask"],
    "needless_asks": ["head", "asks"],
    "kept_asks": ["head", "asks"],
    "entails": ["head", "asks", "other"],
    "say_the_same": ["head", "asks", "other"],
}
HEADS = {
    "least_head": ["asks"],
    "head_through": ["place"],
    "reach": ["head", "distance"],
    "farthest": ["head", "height"],
    "sure_up_to": ["asks", "ask"],
}
WETNESS = {
    "is_wet": ["head", "asks", "place"],
    "jet_to": ["head", "asks", "place"],
    "slopes_to": ["head", "asks", "place"],
    "side_of": ["head", "asks", "place"],
    "piece_side": ["head", "asks", "place", "other"],
}


class InterfaceTest(unittest.TestCase):

    def check_file(self, module, table):
        for name, parameters in table.items():
            function = getattr(module, name)
            self.assertTrue(inspect.isfunction(function), name)
            self.assertEqual(function.__module__, module.__name__, name)
            told = inspect.signature(function).parameters.values()
            self.assertEqual([one.name for one in told], parameters, name)
            for one in told:
                self.assertEqual(one.kind, inspect.Parameter.POSITIONAL_OR_KEYWORD, name)
                self.assertIs(one.default, inspect.Parameter.empty, name)

    def test_numbers(self):
        self.check_file(numbers, NUMBERS)

    def test_places(self):
        self.check_file(places, PLACES)

    def test_jets_and_asks(self):
        self.check_file(jets, JETS)
        self.check_file(asks, ASKS)

    def test_fits_and_ranges(self):
        self.check_file(fits, FITS)
        self.check_file(ranges, RANGES)

    def test_sayings_heads_and_wetness(self):
        self.check_file(sayings, SAYINGS)
        self.check_file(heads, HEADS)
        self.check_file(wetness, WETNESS)


if __name__ == "__main__":
    unittest.main()
