"""The refusals and how they stand to each other (interface, errors.py)."""

import unittest

from groupmarks.errors import BadPattern, BadWay, EmptyRound, MarkError, TwiceNumbered


class ErrorsTest(unittest.TestCase):

    def test_mark_error_is_directly_a_value_error(self):
        self.assertEqual(MarkError.__bases__, (ValueError,))

    def test_each_refusal_is_directly_a_mark_error(self):
        for refusal in (BadPattern, TwiceNumbered, EmptyRound, BadWay):
            self.assertEqual(refusal.__bases__, (MarkError,))

    def test_all_are_defined_in_errors(self):
        for refusal in (MarkError, BadPattern, TwiceNumbered, EmptyRound, BadWay):
            self.assertEqual(refusal.__module__, "groupmarks.errors")


if __name__ == "__main__":
    unittest.main()
