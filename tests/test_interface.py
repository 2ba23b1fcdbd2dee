"""The interface: which functions stand in which file, with which parameters."""

import inspect
import unittest

from spoutlines import (
    asks, certificates, checker, consoles, fits, grounds, guards, heads, jets, numbers, places, ranges, sayings,
    streams, sweeps, wetness, workshops,
)

NUMBERS = {
    "is_fraction": ["value"],
    "is_surd": ["value"],
    "surd_of": ["part", "factor", "fraction"],
    "surd_plus": ["surd", "fraction"],
    "surd_times": ["surd", "fraction"],
    "compare": ["surd", "other"],
    "near": ["surd", "many"],
}
PLACES = {
    "is_point": ["value"],
    "is_place": ["value"],
    "place_of": ["distance", "height"],
    "distance_of": ["place"],
    "height_of": ["place"],
    "grown": ["place", "fraction"],
    "sheared": ["place", "fraction"],
    "seen_from": ["point", "way", "other"],
}
JETS = {
    "is_jet": ["value"],
    "height_at": ["jet", "distance"],
    "slope_at": ["jet", "distance"],
    "time_square": ["jet", "distance"],
    "head_of": ["jet"],
    "head_left": ["jet", "distance"],
    "word_at": ["jet", "distance"],
    "top_of": ["jet"],
    "distances_at": ["jet", "height"],
    "landing": ["jet", "height"],
    "jet_with": ["slope", "place"],
    "jet_through": ["place", "other"],
    "grown_jet": ["jet", "fraction"],
    "sheared_jet": ["jet", "fraction"],
}
ASKS = {
    "is_ask": ["value"],
    "does": ["jet", "ask"],
    "does_all": ["jet", "asks"],
    "is_good": ["jet", "head", "asks"],
    "bound_at": ["ask", "slope"],
    "bound_parts": ["ask"],
    "row_of": ["ask", "distance"],
    "grown_ask": ["ask", "fraction"],
    "sheared_ask": ["ask", "fraction"],
}
FITS = {
    "how_many": ["head", "asks"],
    "any_jet": ["head", "asks"],
    "barred": ["head", "asks"],
    "weights": ["head", "asks"],
    "is_paper": ["head", "asks", "value"],
}
RANGES = {
    "slope_range": ["head", "asks"],
    "bend_range": ["head", "asks"],
    "height_range": ["head", "asks", "distance"],
    "slope_range_at": ["head", "asks", "distance"],
    "bends_with": ["head", "asks", "slope"],
}
SAYINGS = {
    "status_of": ["head", "asks", "ask"],
    "needless_asks": ["head", "asks"],
    "kept_asks": ["head", "asks"],
    "entails": ["head", "asks", "other"],
    "say_the_same": ["head", "asks", "other"],
}
HEADS = {
    "least_head": ["asks"],
    "head_through": ["place"],
    "reach": ["head", "distance"],
    "farthest": ["head", "height"],
    "sure_up_to": ["asks", "ask"],
}
WETNESS = {
    "is_wet": ["head", "asks", "place"],
    "jet_to": ["head", "asks", "place"],
    "slopes_to": ["head", "asks", "place"],
    "side_of": ["head", "asks", "place"],
    "piece_side": ["head", "asks", "place", "other"],
}
GROUNDS = {
    "ground_word": ["jet", "ground"],
    "strike_edge": ["jet", "ground"],
    "strike_distance": ["jet", "ground"],
    "ground_words": ["head", "asks", "ground"],
    "struck_edges": ["head", "asks", "ground"],
    "jet_striking": ["head", "asks", "ground", "index"],
    "strikes_up_to": ["head", "asks", "ground", "index", "distance"],
    "nearest_strike": ["head", "asks", "ground", "index", "many"],
    "farthest_strike": ["head", "asks", "ground", "index", "many"],
}
GUARDS = {
    "is_guard": ["value"],
    "is_guarded": ["head", "asks", "place", "guards"],
    "fewest_guards": ["head", "asks", "place", "guards"],
    "least_post": ["head", "asks", "place", "distance"],
    "greatest_curtain": ["head", "asks", "place", "distance"],
}
STREAMS = {
    "is_stream": ["value"],
    "water_at": ["stream", "fraction"],
    "meetings": ["stream", "other"],
    "first_there": ["stream", "other", "index"],
    "drops_meet": ["stream", "other"],
}
SWEEPS = {
    "jet_between": ["jet", "other", "fraction"],
    "shares_wet": ["jet", "other", "place"],
    "shares_good": ["jet", "other", "head", "asks"],
    "swept_words": ["jet", "other", "ground"],
    "swept_edges": ["jet", "other", "ground"],
}
CHECKER = {
    "accepts": ["claim", "paper"],
}
CERTIFICATES = {
    "certify_jets": ["head", "asks"],
    "certify_ask": ["head", "asks", "ask"],
    "certify_place": ["head", "asks", "place"],
    "certify_guards": ["head", "asks", "place", "guards"],
    "certify_edge": ["head", "asks", "ground", "index"],
    "certify_meetings": ["stream", "other"],
}
WORKSHOP = {
    "__init__": [],
    "put": ["name", "head", "asks"],
    "drop": ["name"],
    "wish": ["wish"],
    "lift": ["index"],
    "named": ["name"],
    "undo": [],
    "trial": [],
    "tried": ["action"],
    "__len__": [],
}
CONSOLE = {
    "__init__": ["shop"],
    "say": ["line"],
}


class InterfaceTest(unittest.TestCase):

    def check_function(self, function, module, parameters):
        self.assertTrue(inspect.isfunction(function))
        self.assertEqual(function.__module__, module.__name__)
        told = inspect.signature(function).parameters.values()
        self.assertEqual([one.name for one in told], parameters, function.__name__)
        for one in told:
            self.assertEqual(one.kind, inspect.Parameter.POSITIONAL_OR_KEYWORD, function.__name__)
            self.assertIs(one.default, inspect.Parameter.empty, function.__name__)

    def check_file(self, module, table):
        for name, parameters in table.items():
            self.check_function(getattr(module, name), module, parameters)

    def check_class(self, made, module, table):
        """Each method stands in the class itself."""
        self.assertTrue(inspect.isclass(made))
        self.assertEqual(made.__module__, module.__name__)
        for name, parameters in table.items():
            self.check_function(vars(made)[name], module, ["self"] + parameters)

    def test_numbers(self):
        self.check_file(numbers, NUMBERS)

    def test_places(self):
        self.check_file(places, PLACES)

    def test_jets_and_asks(self):
        self.check_file(jets, JETS)
        self.check_file(asks, ASKS)

    def test_fits_and_ranges(self):
        self.check_file(fits, FITS)
        self.check_file(ranges, RANGES)

    def test_sayings_heads_and_wetness(self):
        self.check_file(sayings, SAYINGS)
        self.check_file(heads, HEADS)
        self.check_file(wetness, WETNESS)

    def test_grounds_guards_streams_and_sweeps(self):
        self.check_file(grounds, GROUNDS)
        self.check_file(guards, GUARDS)
        self.check_file(streams, STREAMS)
        self.check_file(sweeps, SWEEPS)

    def test_checker_and_certificates(self):
        self.check_file(checker, CHECKER)
        self.check_file(certificates, CERTIFICATES)

    def test_workshops_and_consoles(self):
        self.check_class(workshops.Workshop, workshops, WORKSHOP)
        self.check_class(consoles.Console, consoles, CONSOLE)
        self.assertIn("__contains__", vars(workshops.Workshop))
        for name in ("names", "wishes"):
            self.assertIsInstance(vars(workshops.Workshop)[name], property)


if __name__ == "__main__":
    unittest.main()
