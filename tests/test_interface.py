"""The interface: which functions stand in which file, with which parameters."""

import inspect
import unittest

from spoutlines import numbers, places

NUMBERS = {
    "is_fraction": ["value"],
    "is_surd": ["value"],
    "surd_of": ["part", "factor", "fraction"],
    "surd_plus": ["surd", "fraction"],
    "surd_times": ["surd", "fraction"],
    "compare": ["surd", "other"],
    "near": ["surd", "many"],
}
PLACES = {
    "is_point": ["value"],
    "is_place": ["value"],
    "place_of": ["distance", "height"],
    "distance_of": ["place"],
    "height_of": ["place"],
    "grown": ["place", "fraction"],
    "sheared": ["place", "fraction"],
    "seen_from": ["point", "way", "other"],
}


class InterfaceTest(unittest.TestCase):

    def check_file(self, module, table):
        for name, parameters in table.items():
            function = getattr(module, name)
            self.assertTrue(inspect.isfunction(function), name)
            self.assertEqual(function.__module__, module.__name__, name)
            told = inspect.signature(function).parameters.values()
            self.assertEqual([one.name for one in told], parameters, name)
            for one in told:
                self.assertEqual(one.kind, inspect.Parameter.POSITIONAL_OR_KEYWORD, name)
                self.assertIs(one.default, inspect.Parameter.empty, name)

    def test_numbers(self):
        self.check_file(numbers, NUMBERS)

    def test_places(self):
        self.check_file(places, PLACES)


if __name__ == "__main__":
    unittest.main()
