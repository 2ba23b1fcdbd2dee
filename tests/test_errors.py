"""spoutlines.errors: which classes there are, what they keep, and under what they stand."""

import copy
import inspect
import unittest

from spoutlines import errors
from tests.samples import FRACTIONS, STRANGE

GIVEN = [
    "InvalidFraction", "InvalidNumber", "InvalidIndex", "InvalidSurd", "InvalidPoint", "InvalidPlace",
    "InvalidDistance", "InvalidHead", "InvalidJet", "InvalidAsk", "InvalidStream", "InvalidName", "InvalidWish",
    "InvalidPhrase", "UnknownName", "NotAWorkshop", "NotNearer", "NotFarther",
]
INDEX = ["InvalidAsks", "InvalidGround", "InvalidGuards", "InUse", "Broken"]
BARE = ["NoJetFits", "NothingToUndo"]


class ErrorsTest(unittest.TestCase):

    def test_just_these_classes_are_defined_here(self):
        names = [name for name, value in vars(errors).items() if inspect.isclass(value)]
        self.assertEqual(sorted(names), sorted(["JetError"] + GIVEN + INDEX + BARE))
        for name in names:
            self.assertEqual(getattr(errors, name).__module__, "spoutlines.errors")

    def test_each_class_stands_under_jet_error_and_value_error_alone(self):
        python_own = (ValueError, Exception, BaseException, object)
        self.assertEqual(errors.JetError.__mro__, (errors.JetError,) + python_own)
        for name in GIVEN + INDEX + BARE:
            error_class = getattr(errors, name)
            self.assertEqual(error_class.__bases__, (errors.JetError,), name)
            self.assertEqual(error_class.__mro__, (error_class, errors.JetError) + python_own, name)

    def test_classes_do_not_stand_under_one_another(self):
        for name in GIVEN + INDEX + BARE:
            for other in GIVEN + INDEX + BARE:
                under = issubclass(getattr(errors, name), getattr(errors, other))
                self.assertEqual(under, name == other, (name, other))

    def check_keeps(self, names, attribute):
        for name in names:
            error_class = getattr(errors, name)
            for value in STRANGE + FRACTIONS + [0, -1, 10 ** 5000, "a b", [[1]]]:
                for error in (error_class(value), error_class(**{attribute: value})):
                    self.assertIs(getattr(error, attribute), value)
                    self.assertEqual(list(vars(error)), [attribute])

    def test_given_is_kept_whatever_it_is(self):
        self.check_keeps(GIVEN, "given")

    def test_index_is_kept_whatever_it_is(self):
        self.check_keeps(INDEX, "index")

    def test_attributes_are_required_and_no_others_are_taken(self):
        for name in GIVEN + INDEX:
            error_class = getattr(errors, name)
            wrong_name = "index" if name in GIVEN else "given"
            self.assertRaises(TypeError, error_class)
            self.assertRaises(TypeError, error_class, 1, 2)
            self.assertRaises(TypeError, lambda: error_class(**{wrong_name: 1}))

    def test_classes_without_attributes(self):
        for name in ["JetError"] + BARE:
            self.assertEqual(vars(getattr(errors, name)()), {})

    def test_can_be_raised_caught_shown_and_copied(self):
        for name in GIVEN + INDEX:
            huge = 10 ** 5000
            for base in (errors.JetError, ValueError, getattr(errors, name)):
                with self.assertRaises(base) as caught:
                    raise getattr(errors, name)(huge)
            error = caught.exception
            self.assertTrue(str(error))
            self.assertTrue(repr(error))
            self.assertEqual(vars(copy.copy(error)), vars(error))
        for name in BARE:
            for base in (errors.JetError, ValueError):
                with self.assertRaises(base):
                    raise getattr(errors, name)()


if __name__ == "__main__":
    unittest.main()
