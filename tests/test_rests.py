"""The numbers of rests, by which the search knows its states again."""

import unittest

from groupmarks.rests import numbers_ahead
from samples import A, ANY, B, NONE, PromptCase, group_numbers, mixed_patterns, part_count, small_patterns


class NumbersAheadTest(PromptCase):

    def test_each_form(self):
        self.assertEqual(numbers_ahead(A), [[1], []])
        self.assertEqual(numbers_ahead(("sign", "\n")), [[1], []])
        self.assertEqual(numbers_ahead(ANY), [[1], []])
        self.assertEqual(numbers_ahead(NONE), [[1], []])
        self.assertEqual(numbers_ahead(("row", A, B)), [[1], [2], [3], []])
        self.assertEqual(numbers_ahead(("or", A, B)), [[1, 2], [3], [3], []])
        self.assertEqual(numbers_ahead(("more", A)), [[1, 2], [0], []])
        self.assertEqual(numbers_ahead(("less", A)), [[1, 2], [], [0]])
        self.assertEqual(numbers_ahead(("group", 1, A)), [[1], [2], [3], []])

    def test_equal_rests_have_one_number(self):
        self.assertEqual(numbers_ahead(("or", A, tuple(["sign", "a"]))), [[1, 1], [2], []])
        self.assertEqual(numbers_ahead(("or", ("more", A), ("more", A))), [[1, 1], [2, 3], [1], []])

    def test_there_are_no_more_than_point_12_lets_be(self):
        for pattern in small_patterns(4) + mixed_patterns(100, range(5, 20), 12):
            most = part_count(pattern) + len(group_numbers(pattern)) + 1
            self.assertLessEqual(len(numbers_ahead(pattern)), most)


if __name__ == "__main__":
    unittest.main()
