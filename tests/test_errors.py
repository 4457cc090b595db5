"""The errors, as the interface lists them."""

import unittest

from helpers import ERROR_NAMES

from partshare import errors


class Errors(unittest.TestCase):
    def test_any_refusal_is_a_value_error(self):
        self.assertEqual(errors.ShareError.__bases__, (ValueError,))
        self.assertEqual(errors.ShareError.__module__, "partshare.errors")

    def test_there_are_thirteen_names(self):
        self.assertEqual(len(set(ERROR_NAMES)), 13)

    def test_each_stands_straight_under_share_error(self):
        for name in ERROR_NAMES:
            with self.subTest(name=name):
                kind = getattr(errors, name)
                self.assertEqual(kind.__bases__, (errors.ShareError,))
                self.assertEqual(kind.__name__, name)
                self.assertEqual(kind.__module__, "partshare.errors")

    def test_none_stands_under_another_one(self):
        for name in ERROR_NAMES:
            for other in ERROR_NAMES:
                if name != other:
                    self.assertFalse(issubclass(getattr(errors, name), getattr(errors, other)), name + " " + other)

    def test_no_other_class_is_defined(self):
        found = [name for name, thing in vars(errors).items() if isinstance(thing, type)]
        self.assertEqual(sorted(found), sorted(ERROR_NAMES + ["ShareError"]))

    def test_each_can_be_raised_and_caught_as_any_refusal(self):
        for name in ERROR_NAMES:
            with self.subTest(name=name):
                with self.assertRaises(errors.ShareError) as caught:
                    raise getattr(errors, name)("why")
                self.assertEqual(str(caught.exception), "why")


if __name__ == "__main__":
    unittest.main()
