"""Points 9, 11 and 12: the first way, and the dead ends."""

import unittest

from groupmarks.states import first_state, is_end, onward
from groupmarks.trying import dead_ends, first_way
from groupmarks.walking import walk
from samples import (
    A, ANY, B, NONE, PromptCase, all_ways, group_numbers, mixed_patterns, part_count, row_of, small_patterns, telling,
    texts_of,
)

MORE, LESS = ("more", A), ("less", A)
LONGEST = 120


def rounds_behind_each_other(name, many, inner=A):
    return row_of([(name, inner)] * many)


def rounds_within_rounds(name, many):
    """A chain of rounds, each of them around all later ones: a, then any number of a b c .."""
    pattern = A
    for _ in range(many):
        pattern = ("row", A, (name, pattern))
    return pattern


def groups_around(pattern, many):
    for number in range(many, 0, -1):
        pattern = ("group", number, pattern)
    return pattern


class FirstWayTest(PromptCase):
    """Point 9."""

    def test_each_form(self):
        self.assertEqual(first_way(A, "a"), [])
        self.assertEqual(first_way(ANY, "\n"), [])
        self.assertEqual(first_way(NONE, ""), [])
        self.assertEqual(first_way(("row", A, B), "ab"), [])
        self.assertEqual(first_way(("or", A, B), "a"), [0])
        self.assertEqual(first_way(("or", A, B), "b"), [1])
        self.assertEqual(first_way(MORE, "aa"), [0, 0, 1])
        self.assertEqual(first_way(LESS, "aa"), [1, 1, 0])
        self.assertEqual(first_way(("group", 1, A), "a"), [])

    def test_no_way_fits(self):
        for pattern, text in (
            (A, ""), (A, "b"), (A, "aa"), (ANY, ""), (ANY, "ab"), (NONE, "a"), (("row", A, B), "a"),
            (("row", A, B), "ba"), (("or", A, B), "ab"), (("or", A, B), ""), (MORE, "ab"), (LESS, "b"),
            (("group", 1, A), "b"), (("sign", "\n"), " "), (A, "a\n"), (A, " a"),
        ):
            self.assertIs(first_way(pattern, text), None)

    def test_no_way_is_not_the_way_without_numbers(self):
        self.assertEqual(first_way(NONE, ""), [])
        self.assertIs(first_way(A, ""), None)

    def test_the_empty_text(self):
        self.assertEqual(first_way(MORE, ""), [1])
        self.assertEqual(first_way(LESS, ""), [0])
        self.assertEqual(first_way(("or", A, NONE), ""), [1])
        self.assertEqual(first_way(("or", NONE, MORE), ""), [0])
        self.assertEqual(first_way(("row", MORE, LESS), ""), [1, 0])

    def test_an_or_of_two_that_fit(self):
        self.assertEqual(first_way(("or", A, ANY), "a"), [0])
        self.assertEqual(first_way(("or", A, A), "a"), [0])
        self.assertEqual(first_way(("or", ("row", A, A), MORE), "aa"), [0])
        self.assertEqual(first_way(("or", MORE, ("row", A, A)), "aa"), [0, 0, 0, 1])

    def test_a_more_would_rather_go_on(self):
        self.assertEqual(first_way(("row", MORE, MORE), "aa"), [0, 0, 1, 1])
        self.assertEqual(first_way(("row", MORE, LESS), "aa"), [0, 0, 1, 0])
        self.assertEqual(first_way(row_of([MORE, A]), "aa"), [0, 1])

    def test_a_less_would_rather_stop(self):
        self.assertEqual(first_way(("row", LESS, MORE), "aa"), [0, 0, 0, 1])
        self.assertEqual(first_way(("row", LESS, LESS), "aa"), [0, 1, 1, 0])
        self.assertEqual(first_way(row_of([LESS, A]), "aa"), [1, 0])

    def test_rounds_within_rounds(self):
        pairs = ("more", ("row", A, LESS))
        self.assertEqual(first_way(pairs, "aaa"), [0, 0, 0, 0, 0, 0, 1])
        self.assertEqual(first_way(("less", ("row", A, MORE)), "aaa"), [1, 0, 0, 1, 0])
        self.assertEqual(first_way(("more", ("or", ("row", A, A), A)), "aaa"), [0, 0, 0, 1, 1])

    def test_a_sign_late_in_the_text_decides(self):
        pattern = ("or", ("row", MORE, B), ("row", LESS, ("or", B, ANY)))
        self.assertEqual(first_way(pattern, "aab"), [0, 0, 0, 1])
        self.assertEqual(first_way(pattern, "aac"), [1, 1, 1, 0, 1])

    def test_it_is_the_first_of_all_ways(self):
        for pattern, text, ways in many_tries():
            with telling(pattern, text):
                first = first_way(pattern, text)
                self.assertEqual(first, ways[0] if ways else None)
                # Lists are compared as point 9 compares ways.
                self.assertEqual(first, min(ways, default=None))

    def test_the_many_tries_have_texts_with_several_ways(self):
        counts = [len(ways) for _, _, ways in many_tries()]
        self.assertGreater(counts.count(0), 1000)
        self.assertGreater(len([count for count in counts if count > 1]), 1000)
        self.assertGreater(max(counts), 20)

    def test_kinds_of_values(self):
        way = first_way(("row", MORE, ("or", A, B)), "ab")
        self.assertIs(type(way), list)
        self.assertEqual([type(number) for number in way], [int] * len(way))

    def test_the_list_is_new_each_time(self):
        first_way(MORE, "a").clear()
        self.assertEqual(first_way(MORE, "a"), [0, 1])


class DeadEndsCase(PromptCase):

    def assert_dead_ends(self, pattern, text):
        """All that points 11 and 12 say of the dead ends."""
        way = first_way(pattern, text)
        found = dead_ends(pattern, text)
        self.assertIs(type(found), list)
        dead = dict.fromkeys(found)
        self.assertEqual(len(dead), len(found))
        for state in found:
            self.assertFalse(is_end(state, text))
            for later in onward(state, text):
                self.assertIn(later, dead)
        passed = self.assert_shows_why(pattern, text, way, dead)
        self.assertEqual(len(dict.fromkeys(found + passed)), len(found) + len(passed))
        bound = (part_count(pattern) + len(group_numbers(pattern)) + 1) * (len(text) + 1)
        self.assertLessEqual(len(found) + len(passed), bound)

    def assert_shows_why(self, pattern, text, way, dead):
        """The states on the walk of the first way, none where no way fits."""
        if way is None:
            self.assertIn(first_state(pattern), dead)
            return []
        passed = walk(pattern, text, way)
        # Both following states may be equal, so only the way tells whether a 1 led on.
        branching = [state for state in passed if len(onward(state, text)) == 2]
        self.assertEqual(len(branching), len(way))
        for state, number in zip(branching, way):
            if number == 1:
                self.assertIn(onward(state, text)[0], dead)
        return passed


class DeadEndsTest(DeadEndsCase):
    """Point 11."""

    def test_nothing_is_tried_in_vain(self):
        self.assertEqual(dead_ends(A, "a"), [])
        self.assertEqual(dead_ends(NONE, ""), [])
        self.assertEqual(dead_ends(("or", A, B), "a"), [])
        self.assertEqual(dead_ends(LESS, ""), [])

    def test_what_a_1_led_on_from(self):
        found = dead_ends(("or", A, B), "b")
        self.assertIn(((A,), 0), found)
        self.assertNotIn(((B,), 0), found)
        self.assertIn(((A, MORE), 2), dead_ends(MORE, "aa"))
        self.assertIn(((), 0), dead_ends(LESS, "aa"))
        self.assertIn(((), 1), dead_ends(LESS, "aa"))

    def test_no_way_fits(self):
        self.assertEqual(dead_ends(A, "b"), [((A,), 0)])
        self.assertEqual(dead_ends(A, ""), [((A,), 0)])
        self.assertEqual(sorted(dead_ends(NONE, "a")), sorted([((NONE,), 0), ((), 0)]))
        either = ("or", A, B)
        self.assertEqual(sorted(dead_ends(either, "c")), sorted([((A,), 0), ((B,), 0), ((either,), 0)]))

    def test_what_a_dead_end_leads_on_to(self):
        pattern = ("or", ("row", ("group", 1, ("more", A)), B), ANY)
        found = dead_ends(pattern, "a")
        for state in (
            ((("row", ("group", 1, ("more", A)), B),), 0), ((("close", 1), B), 1), ((("close", 1), B), 0), ((B,), 1),
        ):
            self.assertIn(state, found)
        self.assert_dead_ends(pattern, "a")

    def test_many_patterns_and_texts(self):
        for pattern, text, _ in many_tries():
            with telling(pattern, text):
                self.assert_dead_ends(pattern, text)

    def test_the_list_is_new_each_time(self):
        dead_ends(A, "b").clear()
        self.assertEqual(dead_ends(A, "b"), [((A,), 0)])

    def test_kinds_of_values(self):
        for state in dead_ends(("row", ("group", 1, MORE), B), "aa"):
            self.assertIs(type(state), tuple)
            self.assertIs(type(state[0]), tuple)
            self.assertIs(type(state[1]), int)


class EqualPartsTest(DeadEndsCase):
    """Points 11 and 12: one state that is come to by several parts of one form is still one state."""

    def test_both_sides_of_an_or(self):
        either = ("or", A, A)
        self.assertEqual(sorted(dead_ends(either, "b")), sorted([((A,), 0), ((either,), 0)]))
        twice = ("or", ("row", A, MORE), ("row", A, MORE))
        for text in ("", "b", "ab", "aab"):
            self.assert_dead_ends(twice, text)

    def test_equal_parts_that_are_not_one_object(self):
        for made in (lambda: ("more", ("row", tuple(["sign", "a"]), B)), lambda: ("or", tuple(["any"]), B)):
            pattern = ("or", ("row", made(), B), ("or", ("row", made(), A), ("row", made(), B)))
            for text in texts_of("ab", 4):
                self.assert_dead_ends(pattern, text)

    def test_a_round_and_its_own_unfolding(self):
        for name in ("more", "less"):
            again = (name, ("row", A, B))
            for pattern in (("row", again, again), ("or", ("row", A, ("row", B, again)), again), row_of([again] * 4)):
                for text in ("", "ab", "abab", "ababa", "ba"):
                    self.assert_dead_ends(pattern, text)

    def test_equal_parts_nested_deeper_than_a_few_levels(self):
        chain = A
        for _ in range(14):
            chain = ("row", ("or", chain, B), A)
        pattern = ("or", chain, ("or", ("row", chain, B), chain))
        for text in ("", "a" * 15, "b" + "a" * 14, "a" * 14 + "b", "a" * 15 + "b"):
            self.assert_dead_ends(pattern, text)


class ManyWaysTest(DeadEndsCase):
    """Point 12: patterns that have very many ways."""

    def assert_answers(self, pattern, text, fits):
        self.assertEqual(first_way(pattern, text) is not None, fits)
        self.assert_dead_ends(pattern, text)

    def test_more_states_than_ways_would_have_steps(self):
        # Short enough that a search without memory ends, too, and is found out by its list.
        for name in ("more", "less"):
            for pattern in (rounds_behind_each_other(name, 4), rounds_within_rounds(name, 4)):
                self.assert_answers(("row", pattern, B), "a" * 7, False)

    def test_rounds_behind_each_other(self):
        for name in ("more", "less"):
            pattern = ("row", rounds_behind_each_other(name, 32), B)
            self.assert_answers(pattern, "a" * LONGEST, False)
            self.assert_answers(pattern, "a" * (LONGEST - 1) + "b", True)
            self.assert_answers(pattern, "a" * (LONGEST - 2) + "ba", False)

    def test_rounds_of_any_behind_each_other(self):
        for name in ("more", "less"):
            pattern = ("row", rounds_behind_each_other(name, 32, ANY), ("sign", "z"))
            self.assert_answers(pattern, "ab \n" * 30, False)
            self.assert_answers(pattern, "ab \n" * 29 + "z", True)

    def test_rounds_within_rounds(self):
        for name in ("more", "less"):
            pattern = rounds_within_rounds(name, 32)
            self.assert_answers(pattern, "a" * LONGEST, True)
            self.assert_answers(pattern, "a" * (LONGEST - 1) + "b", False)

    def test_rounds_within_rounds_behind_each_other(self):
        for name, other in (("more", "less"), ("less", "more"), ("more", "more"), ("less", "less")):
            inner = (name, ("row", A, (other, ("row", A, (name, A)))))
            pattern = row_of([inner] * 9 + [B])
            self.assert_answers(pattern, "a" * LONGEST, False)
            self.assert_answers(pattern, "a" * (LONGEST - 1) + "b", True)

    def test_rounds_of_ors_whose_sides_both_fit(self):
        for name in ("more", "less"):
            pattern = ("row", (name, ("or", ("row", A, A), ("or", A, ("or", ANY, A)))), B)
            self.assert_answers(pattern, "a" * LONGEST, False)
            self.assert_answers(pattern, "a" * (LONGEST - 1) + "b", True)

    def test_ors_behind_each_other(self):
        pattern = row_of([("or", A, ANY)] * 24 + [B])
        self.assert_answers(pattern, "a" * 25, False)
        self.assert_answers(pattern, "a" * 24 + "b", True)

    def test_rounds_of_groups(self):
        pattern = row_of([("more", ("group", number, ("or", A, ANY))) for number in range(16, 0, -1)] + [B])
        self.assert_answers(pattern, "a" * LONGEST, False)
        self.assert_answers(pattern, "a" * (LONGEST - 1) + "b", True)


class LongPatternTest(DeadEndsCase):
    """Points 1 and 3: patterns of 100 parts, texts of 120 signs."""

    def test_a_long_chain_of_groups(self):
        pattern = groups_around(A, 99)
        self.assertEqual(first_way(pattern, "a"), [])
        self.assertEqual(dead_ends(pattern, "a"), [])
        self.assertEqual(len(dead_ends(pattern, "b")), 100)
        self.assertEqual(len(dead_ends(pattern, "ab")), 99 + 1 + 99 + 1)
        for text in ("", "a", "b", "aa", "a" * LONGEST):
            self.assert_dead_ends(pattern, text)

    def test_a_round_over_a_long_chain_of_groups(self):
        for name in ("more", "less"):
            pattern = (name, groups_around(ANY, 98))
            self.assertEqual(len(first_way(pattern, "ab" * 60)), LONGEST + 1)
            self.assert_dead_ends(pattern, "ab" * 60)

    def test_a_long_chain_of_ors(self):
        pattern = A
        for _ in range(49):
            pattern = ("or", pattern, B)
        self.assertEqual(first_way(pattern, "a"), [0] * 49)
        self.assertEqual(first_way(pattern, "b"), [0] * 48 + [1])
        self.assertIs(first_way(pattern, "c"), None)
        for text in ("", "a", "b", "c", "ab"):
            self.assert_dead_ends(pattern, text)

    def test_long_chains_of_rows(self):
        left = right = A
        for _ in range(49):
            left, right = ("row", left, A), ("row", A, right)
        for pattern in (left, right):
            self.assertEqual(first_way(pattern, "a" * 50), [])
            for text in ("a" * 50, "a" * 49, "a" * 51, "a" * 25 + "b" + "a" * 24, "a" * LONGEST):
                self.assert_dead_ends(pattern, text)

    def test_a_long_chain_of_rounds(self):
        for name, other in (("more", "less"), ("less", "more")):
            pattern = ANY
            for number in range(1, 20):
                pattern = ("row", ("group", number, (name, ("row", A, (other, B)))) if number % 5 == 0 else A, pattern)
                pattern = ("row", (other, ("row", ANY, (name, A))), pattern) if number % 10 == 0 else pattern
            for text in ("ab" * 60, "a" * LONGEST, "aab" * 40, "a" * 60):
                self.assert_dead_ends(pattern, text)

    def test_somewhat_beyond_the_limits(self):
        pattern = ("row", ("more", groups_around(("or", A, B), 130)), B)
        self.assertEqual(first_way(pattern, "ab" * 70)[-2:], [0, 1])
        self.assert_dead_ends(pattern, "ab" * 70)


_TRIES = []


def many_tries():
    """Many patterns, each with many texts and all its ways that fit, in order; worked out once."""
    if not _TRIES:
        few = [pattern for size in range(1, 5) for pattern in small_patterns(size)]
        some = small_patterns(5)[::4] + mixed_patterns(300, range(6, 15), 9)
        for patterns, texts in ((few, texts_of("ab", 3)), (some, texts_of("ab", 3)[::2] + texts_of("ab", 5)[20::6])):
            for pattern in patterns:
                for text in texts:
                    _TRIES.append((pattern, text, [way for way, _ in all_ways(pattern, text)]))
    return _TRIES


if __name__ == "__main__":
    unittest.main()
