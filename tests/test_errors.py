"""Point 14: the error classes."""

import inspect
import unittest

from countahead import errors
from countahead.errors import MarkError

NAMES = [
    "NoLine", "NoPerson", "NoMark", "NoRounds", "NoSize", "NoNumber", "NoBound", "NoWeights", "NotStill",
    "NotAlike", "NoCode", "NoOrder", "Full", "Nothing", "NoOperation", "NoText", "NoRow",
]


class ErrorsTest(unittest.TestCase):

    def test_the_common_class_is_a_value_error(self):
        self.assertEqual(MarkError.__bases__, (ValueError,))
        self.assertEqual(MarkError.__module__, "countahead.errors")

    def test_each_named_class_is_there_and_a_direct_subclass(self):
        for name in NAMES:
            with self.subTest(name):
                kind = getattr(errors, name)
                self.assertEqual(kind.__name__, name)
                self.assertEqual(kind.__bases__, (MarkError,))
                self.assertEqual(kind.__module__, "countahead.errors")

    def test_no_other_class_is_there(self):
        found = [name for name, _ in inspect.getmembers(errors, inspect.isclass)]
        self.assertEqual(sorted(found), sorted(NAMES + ["MarkError"]))

    def test_they_take_a_message(self):
        for name in NAMES + ["MarkError"]:
            with self.subTest(name):
                kind = getattr(errors, name)
                self.assertEqual(str(kind("what is wrong")), "what is wrong")
                with self.assertRaises(MarkError):
                    raise kind("what is wrong")
                with self.assertRaises(ValueError):
                    raise kind("what is wrong")

    def test_none_is_caught_as_another(self):
        for name in NAMES:
            for other in NAMES:
                if name != other:
                    self.assertNotIsInstance(getattr(errors, name)("why"), getattr(errors, other))


if __name__ == "__main__":
    unittest.main()
