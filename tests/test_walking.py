"""Points 8 and 10: walks of ways, and the marks of groups."""

import unittest

from groupmarks.errors import BadWay
from groupmarks.states import first_state, is_end, onward
from groupmarks.walking import marks, walk
from samples import (
    A, ANY, B, NONE, PromptCase, all_ways, group_numbers, mixed_patterns, row_of, small_patterns, texts_of,
)

HUGE = 10 ** 5000


class Hostile:
    """Ends in an error where it is compared or asked for its truth."""

    def __eq__(self, other):
        raise RuntimeError("compared")

    def __bool__(self):
        raise RuntimeError("asked for its truth")

    def __index__(self):
        raise RuntimeError("taken for a number")


class OtherNumber(int):
    """No whole number of the plain kind."""


NO_NUMBERS = [
    True, False, 2, -1, 3, -2, HUGE, -HUGE, None, "", "0", "1", "a", b"0", b"",
    [], [0], [1], {}, {0: 1}, (), (0,), (1,), set(), object(), int, len, Hostile(),
    0.0, 1.0, 0.5, 1.5, -0.0, float("nan"), float("inf"), 0j, 1 + 0j,
]


class WalkCase(PromptCase):

    def assert_is_walk(self, states, pattern, text, way):
        """Each state is the one that follows the state ahead of it, by the numbers of the way."""
        self.assertEqual(states[0], first_state(pattern))
        self.assertTrue(is_end(states[-1], text))
        used = []
        for state, later in zip(states, states[1:]):
            following = onward(state, text)
            if len(following) == 2:
                used.append(way[len(used)])
                self.assertEqual(later, following[used[-1]])
            else:
                self.assertEqual([later], following)
        self.assertEqual(used, way)

    def assert_unfit(self, pattern, text, way):
        """Both functions refuse the way, and leave it as it was."""
        for function in (walk, marks):
            handed_in = list(way)
            with self.assertRaises(BadWay):
                function(pattern, text, handed_in)
            self.assertEqual(len(handed_in), len(way))
            for one, other in zip(handed_in, way):
                self.assertIs(one, other)


class WalkTest(WalkCase):
    """Point 8, where the way fits."""

    def test_a_sign(self):
        self.assertEqual(walk(A, "a", []), [((A,), 0), ((), 1)])
        for sign in (" ", "\n", "~", "(", "\\"):
            self.assertEqual(walk(("sign", sign), sign, []), [((("sign", sign),), 0), ((), 1)])

    def test_an_any(self):
        for sign in ("a", " ", "\n", "~", "."):
            self.assertEqual(walk(ANY, sign, []), [((ANY,), 0), ((), 1)])

    def test_a_none(self):
        self.assertEqual(walk(NONE, "", []), [((NONE,), 0), ((), 0)])

    def test_a_row(self):
        row = ("row", A, B)
        self.assertEqual(walk(row, "ab", []), [((row,), 0), ((A, B), 0), ((B,), 1), ((), 2)])

    def test_an_or(self):
        either = ("or", A, B)
        self.assertEqual(walk(either, "a", [0]), [((either,), 0), ((A,), 0), ((), 1)])
        self.assertEqual(walk(either, "b", [1]), [((either,), 0), ((B,), 0), ((), 1)])

    def test_a_more(self):
        more = ("more", A)
        self.assertEqual(walk(more, "", [1]), [((more,), 0), ((), 0)])
        self.assertEqual(walk(more, "aa", [0, 0, 1]), [
            ((more,), 0), ((A, more), 0), ((more,), 1), ((A, more), 1), ((more,), 2), ((), 2),
        ])

    def test_a_less(self):
        less = ("less", A)
        self.assertEqual(walk(less, "", [0]), [((less,), 0), ((), 0)])
        self.assertEqual(walk(less, "aa", [1, 1, 0]), [
            ((less,), 0), ((A, less), 0), ((less,), 1), ((A, less), 1), ((less,), 2), ((), 2),
        ])

    def test_a_group(self):
        group = ("group", 7, A)
        self.assertEqual(walk(group, "a", []), [
            ((group,), 0), ((A, ("close", 7)), 0), ((("close", 7),), 1), ((), 1),
        ])

    def test_forms_within_each_other(self):
        less, either = ("less", ANY), ("or", NONE, B)
        group = ("group", 2, less)
        pattern = ("row", group, either)
        self.assertEqual(walk(pattern, "xb", [1, 0, 1]), [
            ((pattern,), 0),
            ((group, either), 0),
            ((less, ("close", 2), either), 0),
            ((ANY, less, ("close", 2), either), 0),
            ((less, ("close", 2), either), 1),
            ((("close", 2), either), 1),
            ((either,), 1),
            ((B,), 1),
            ((), 2),
        ])

    def test_a_number_is_used_where_both_following_states_are_equal(self):
        both = ("or", A, A)
        self.assertEqual(walk(both, "a", [0]), walk(both, "a", [1]))
        self.assert_unfit(both, "a", [])

    def test_a_way_that_is_not_the_first_one(self):
        pattern = ("row", ("more", A), ("more", A))
        self.assertEqual(len(walk(pattern, "aa", [0, 0, 1, 1])), 8)
        self.assertEqual(len(walk(pattern, "aa", [0, 1, 0, 1])), 8)
        self.assertEqual(walk(pattern, "aa", [1, 0, 0, 1])[2], ((("more", A),), 0))

    def test_every_way_of_small_patterns(self):
        for pattern in small_patterns(3) + small_patterns(4) + mixed_patterns(60, range(5, 12), 8):
            for text in texts_of("ab", 2):
                for way, _ in all_ways(pattern, text):
                    self.assert_is_walk(walk(pattern, text, way), pattern, text, way)

    def test_kinds_of_values(self):
        states = walk(("row", ("more", A), B), "ab", [0, 1])
        self.assertIs(type(states), list)
        for state in states:
            self.assertIs(type(state), tuple)
            self.assertIs(type(state[0]), tuple)
            self.assertIs(type(state[1]), int)

    def test_the_list_is_new_each_time(self):
        walk(A, "a", []).clear()
        self.assertEqual(walk(A, "a", []), [((A,), 0), ((), 1)])


class UnfitWayTest(WalkCase):
    """Point 8, where the way does not fit."""

    def test_no_number_is_left_at_the_beginning(self):
        self.assert_unfit(("or", A, B), "a", [])
        self.assert_unfit(("more", A), "", [])
        self.assert_unfit(("less", A), "", [])
        self.assert_unfit(("or", NONE, NONE), "", [])

    def test_no_number_is_left_within(self):
        self.assert_unfit(row_of([("or", A, B)] * 3), "aaa", [0])
        self.assert_unfit(row_of([A, ("or", A, B), B]), "aab", [])
        self.assert_unfit(("more", A), "aaa", [0, 0])
        self.assert_unfit(("row", ("less", A), B), "ab", [1])

    def test_no_number_is_left_at_the_end_of_the_text(self):
        self.assert_unfit(("more", A), "aa", [0, 0])
        self.assert_unfit(("less", A), "aa", [1, 1])
        self.assert_unfit(("row", A, ("or", NONE, B)), "a", [])
        self.assert_unfit(("row", ("more", A), ("more", B)), "a", [0, 1])

    def test_a_number_that_is_none_at_the_beginning(self):
        for thing in NO_NUMBERS:
            self.assert_unfit(("or", A, B), "a", [thing])
            self.assert_unfit(("or", B, A), "a", [thing])
            self.assert_unfit(("more", A), "aa", [thing, 0, 1])
            self.assert_unfit(("less", A), "", [thing])

    def test_a_number_that_is_none_within(self):
        for thing in NO_NUMBERS:
            self.assert_unfit(("more", A), "aa", [0, thing, 1])
            self.assert_unfit(("less", A), "aa", [1, thing, 0])
            self.assert_unfit(row_of([("or", A, A)] * 3), "aaa", [0, thing, 1])

    def test_a_number_that_is_none_at_the_end(self):
        for thing in NO_NUMBERS:
            self.assert_unfit(("more", A), "aa", [0, 0, thing])
            self.assert_unfit(("less", A), "aa", [1, 1, thing])
            self.assert_unfit(("row", A, ("or", NONE, NONE)), "a", [thing])

    def test_true_and_false_in_the_place_of_the_numbers_that_fit(self):
        self.assert_unfit(("more", A), "a", [False, 1])
        self.assert_unfit(("more", A), "a", [0, True])
        self.assert_unfit(("more", A), "a", [False, True])
        self.assert_unfit(("more", A), "a", [0, OtherNumber(1)])

    def test_nothing_follows_at_the_beginning(self):
        self.assert_unfit(A, "b", [])
        self.assert_unfit(A, "", [])
        self.assert_unfit(ANY, "", [])
        self.assert_unfit(("group", 1, A), "b", [])

    def test_nothing_follows_within(self):
        self.assert_unfit(("or", A, B), "b", [0])
        self.assert_unfit(("or", A, B), "a", [1])
        self.assert_unfit(("row", ("more", A), B), "aab", [0, 1])
        self.assert_unfit(("row", ("less", ANY), B), "aab", [1, 0])
        self.assert_unfit(("more", A), "ab", [0, 0, 1])

    def test_nothing_follows_at_the_end_of_the_text(self):
        self.assert_unfit(("row", A, B), "a", [])
        self.assert_unfit(("row", A, ANY), "a", [])
        self.assert_unfit(("row", ("more", A), ANY), "a", [0, 1])
        self.assert_unfit(("more", A), "a", [0, 0, 1])

    def test_nothing_follows_though_a_part_of_the_text_is_left(self):
        self.assert_unfit(A, "aa", [])
        self.assert_unfit(NONE, "a", [])
        self.assert_unfit(("more", A), "aa", [1])
        self.assert_unfit(("more", A), "aa", [0, 1])
        self.assert_unfit(("less", A), "a", [0])
        self.assert_unfit(("group", 1, A), "a\n", [])

    def test_nothing_follows_and_numbers_are_left(self):
        self.assert_unfit(("more", A), "aa", [0, 1, 0, 1])
        self.assert_unfit(A, "b", [0])

    def test_numbers_are_left_over(self):
        for left_over in (0, 1, *NO_NUMBERS):
            self.assert_unfit(A, "a", [left_over])
            self.assert_unfit(NONE, "", [left_over])
            self.assert_unfit(("more", A), "aa", [0, 0, 1, left_over])
            self.assert_unfit(("less", A), "", [0, left_over])
            self.assert_unfit(("group", 1, ("or", A, B)), "b", [1, left_over, left_over])

    def test_every_other_way_of_small_patterns(self):
        ways = [list(map(int, digits)) for digits in texts_of("01", 4)]
        for pattern in small_patterns(3) + mixed_patterns(40, range(4, 9), 80):
            for text in texts_of("ab", 2):
                fitting = [way for way, _ in all_ways(pattern, text)]
                for way in ways:
                    if way not in fitting:
                        self.assert_unfit(pattern, text, way)

    def test_a_way_that_fits_stays_as_it_was(self):
        for function in (walk, marks):
            way = [0, 0, 1]
            function(("more", ("group", 1, A)), "aa", way)
            self.assertEqual(way, [0, 0, 1])


class MarksTest(PromptCase):
    """Point 10."""

    def test_no_group(self):
        self.assertEqual(marks(A, "a", []), {})
        self.assertEqual(marks(("more", A), "aa", [0, 0, 1]), {})

    def test_the_whole_text(self):
        self.assertEqual(marks(("group", 1, A), "a", []), {1: (0, 1)})
        self.assertEqual(marks(("group", 9, ("more", ANY)), "a \n", [0, 0, 0, 1]), {9: (0, 3)})

    def test_groups_behind_each_other(self):
        pattern = row_of([("group", 1, ("more", A)), B, ("group", 2, ("row", A, ANY)), ("group", 3, NONE)])
        self.assertEqual(marks(pattern, "aabab", [0, 0, 1]), {1: (0, 2), 2: (3, 5), 3: (5, 5)})

    def test_groups_within_groups(self):
        pattern = ("group", 1, row_of([A, ("group", 2, ("row", A, ("group", 3, B))), A]))
        self.assertEqual(marks(pattern, "aaba", []), {1: (0, 4), 2: (1, 3), 3: (2, 3)})

    def test_the_last_time_counts(self):
        self.assertEqual(marks(("more", ("group", 1, ANY)), "abc", [0, 0, 0, 1]), {1: (2, 3)})
        self.assertEqual(marks(("less", ("group", 1, ANY)), "abc", [1, 1, 1, 0]), {1: (2, 3)})
        pairs = ("more", ("group", 1, ("row", ANY, ("group", 2, ANY))))
        self.assertEqual(marks(pairs, "abab", [0, 0, 1]), {1: (2, 4), 2: (3, 4)})

    def test_a_group_around_a_round(self):
        self.assertEqual(marks(("group", 1, ("more", ANY)), "abc", [0, 0, 0, 1]), {1: (0, 3)})
        pattern = ("more", ("group", 2, ("row", A, ("less", ("group", 1, B)))))
        self.assertEqual(marks(pattern, "abbab", [0, 1, 1, 0, 0, 1, 0, 1]), {2: (3, 5), 1: (4, 5)})

    def test_a_group_of_an_earlier_round_keeps_its_mark(self):
        pattern = ("more", ("or", ("group", 1, A), ("group", 2, B)))
        self.assertEqual(marks(pattern, "ab", [0, 0, 0, 1, 1]), {1: (0, 1), 2: (1, 2)})
        self.assertEqual(marks(pattern, "aba", [0, 0, 0, 1, 0, 0, 1]), {1: (2, 3), 2: (1, 2)})
        inner = ("more", ("row", ("group", 1, A), ("more", ("group", 2, B))))
        self.assertEqual(marks(inner, "aba", [0, 0, 1, 0, 1, 1]), {1: (2, 3), 2: (1, 2)})

    def test_groups_that_are_never_closed(self):
        self.assertEqual(marks(("more", ("group", 1, A)), "", [1]), {1: None})
        self.assertEqual(marks(("less", ("group", 1, A)), "", [0]), {1: None})
        self.assertEqual(marks(("or", A, ("group", 1, A)), "a", [0]), {1: None})

    def test_the_sides_of_an_or(self):
        pattern = ("or", ("group", 1, A), ("group", 2, ("group", 3, ANY)))
        self.assertEqual(marks(pattern, "a", [0]), {1: (0, 1), 2: None, 3: None})
        self.assertEqual(marks(pattern, "a", [1]), {1: None, 2: (0, 1), 3: (0, 1)})

    def test_a_group_that_took_nothing_beside_one_that_was_never_closed(self):
        pattern = row_of([("group", 1, NONE), ("or", ("group", 2, A), B), ("group", 3, ("more", A))])
        self.assertEqual(marks(pattern, "b", [1, 1]), {1: (0, 0), 2: None, 3: (1, 1)})
        self.assertEqual(marks(("group", 1, NONE), "", []), {1: (0, 0)})

    def test_numbers_of_any_size_in_the_order_of_the_parts(self):
        pattern = row_of([
            ("group", 50, ("group", 3, A)), ("group", HUGE, B), ("or", ("group", 2 ** 64, A), ("group", 1, A)),
        ])
        found = marks(pattern, "aba", [1])
        self.assertEqual(list(found.items()), [
            (50, (0, 1)), (3, (0, 1)), (HUGE, (1, 2)), (2 ** 64, None), (1, (2, 3)),
        ])

    def test_the_order_is_not_that_of_closing(self):
        pattern = ("row", ("more", ("or", ("group", 9, A), ("group", 8, B))), ("group", 7, NONE))
        for text, way in (("ab", [0, 0, 0, 1, 1]), ("ba", [0, 1, 0, 0, 1]), ("", [1])):
            self.assertEqual(list(marks(pattern, text, way)), [9, 8, 7])

    def test_every_way_of_many_patterns(self):
        for pattern in small_patterns(3) + small_patterns(4) + mixed_patterns(200, range(5, 14), 10):
            for text in texts_of("ab", 3):
                for way, told in all_ways(pattern, text)[:20]:
                    found = marks(pattern, text, way)
                    expected = [(number, told.get(number)) for number in group_numbers(pattern)]
                    self.assertEqual(list(found.items()), expected)

    def test_kinds_of_values(self):
        found = marks(("row", ("group", 1, A), ("more", ("group", 2, A))), "a", [1])
        self.assertIs(type(found), dict)
        self.assertIs(type(found[1]), tuple)
        self.assertEqual([type(place) for place in found[1]], [int, int])
        self.assertIs(found[2], None)


class LongWalkTest(PromptCase):
    """Point 1: texts of up to 120 signs, walks of some thousand states, patterns of 100 parts."""

    def test_a_long_text(self):
        text = "ab \n~" * 24
        pattern = ("more", ("group", 1, ("group", 2, ANY)))
        way = [0] * 120 + [1]
        self.assertEqual(len(walk(pattern, text, way)), 120 * 6 + 2)
        self.assertEqual(marks(pattern, text, way), {1: (119, 120), 2: (119, 120)})

    def test_a_walk_of_some_thousand_states(self):
        inner = ANY
        for number in range(45, 0, -1):
            inner = ("group", number, ("or", inner, B))
        pattern = ("more", inner)
        way = ([0] + [0] * 45) * 120 + [1]
        self.assertEqual(len(walk(pattern, "a" * 120, way)), 120 * (1 + 3 * 45 + 1) + 2)
        self.assertEqual(marks(pattern, "a" * 120, way), {number: (119, 120) for number in range(1, 46)})

    def test_a_long_chain_of_groups(self):
        pattern = A
        for number in range(99, 0, -1):
            pattern = ("group", number, pattern)
        self.assertEqual(len(walk(pattern, "a", [])), 1 + 99 + 1 + 99)
        self.assertEqual(list(marks(pattern, "a", []).items()), [(number, (0, 1)) for number in range(1, 100)])


if __name__ == "__main__":
    unittest.main()
