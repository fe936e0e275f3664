"""Points 1, 9 and 10: whether a pattern fits, and what its groups took."""

import unittest

from groupmarks.taking import fits, taken
from groupmarks.trying import first_way
from groupmarks.walking import marks
from samples import (
    A, ANY, B, NONE, PromptCase, all_ways, group_numbers, mixed_patterns, row_of, small_patterns, telling, texts_of,
)

HUGE = 10 ** 5000
MORE, LESS = ("more", ANY), ("less", ANY)

EXCHANGED = {"more": "less", "less": "more"}


def exchanged(pattern):
    """The pattern with each more for a less, and each less for a more."""
    name = EXCHANGED.get(pattern[0], pattern[0])
    return (name,) + tuple(exchanged(item) if isinstance(item, tuple) else item for item in pattern[1:])


def exact(text):
    """A pattern that takes just this text."""
    return row_of([("sign", sign) for sign in text])


class FitsTest(PromptCase):

    def test_each_form(self):
        for pattern, fitting, others in (
            (A, ["a"], ["", "b", "aa", "A", " a", "a "]),
            (ANY, ["a", " ", "\n", "~", "."], ["", "ab", "\n\n"]),
            (NONE, [""], ["a", " ", "\n"]),
            (("row", A, B), ["ab"], ["", "a", "b", "ba", "abb", "aab"]),
            (("or", A, B), ["a", "b"], ["", "ab", "c"]),
            (("more", A), ["", "a", "aaa"], ["b", "ab", "ba", "aba"]),
            (("less", A), ["", "a", "aaa"], ["b", "ab", "ba", "aba"]),
            (("group", 1, A), ["a"], ["", "b", "aa"]),
        ):
            for text in fitting:
                self.assertIs(fits(pattern, text), True)
            for text in others:
                self.assertIs(fits(pattern, text), False)

    def test_the_whole_text_is_meant(self):
        self.assertIs(fits(("sign", "b"), "abc"), False)
        self.assertIs(fits(("row", A, B), "abc"), False)
        self.assertIs(fits(("row", B, ("sign", "c")), "abc"), False)

    def test_the_empty_text(self):
        for pattern, answer in (
            (NONE, True), (MORE, True), (LESS, True), (A, False), (ANY, False), (("group", 1, NONE), True),
            (("row", MORE, LESS), True), (("row", MORE, A), False), (("or", A, NONE), True), (("or", A, B), False),
        ):
            self.assertIs(fits(pattern, ""), answer)

    def test_all_signs(self):
        signs = [chr(code) for code in range(32, 127) if code != 37] + ["\n"]
        for sign in signs:
            self.assertIs(fits(ANY, sign), True)
            self.assertEqual([other for other in signs if fits(("sign", sign), other)], [sign])

    def test_more_and_less_exchanged(self):
        patterns = small_patterns(3) + small_patterns(4) + small_patterns(5)[::5]
        for pattern in patterns + mixed_patterns(200, range(6, 15), 3):
            for text in texts_of("ab", 3) + ["abab", "aabb", "babab"]:
                answer = bool(all_ways(pattern, text))
                self.assertIs(fits(pattern, text), answer)
                self.assertIs(fits(exchanged(pattern), text), answer)


class TakenTest(PromptCase):

    def test_no_group(self):
        self.assertEqual(taken(A, "a"), {})
        self.assertEqual(taken(NONE, ""), {})

    def test_no_way_fits(self):
        group = ("group", 1, A)
        for pattern, text in ((A, "b"), (A, ""), (NONE, "a"), (group, "b"), (("more", group), "ab")):
            self.assertIs(taken(pattern, text), None)

    def test_no_groups_are_not_no_way(self):
        self.assertEqual(taken(MORE, ""), {})
        self.assertIsNotNone(taken(MORE, ""))

    def test_groups_behind_each_other(self):
        pattern = row_of([("group", 1, MORE), ("sign", "-"), ("group", 2, MORE)])
        self.assertEqual(taken(pattern, "ab-c"), {1: "ab", 2: "c"})
        self.assertEqual(taken(pattern, "-"), {1: "", 2: ""})
        self.assertIs(taken(pattern, "abc"), None)

    def test_more_takes_much_and_less_takes_little(self):
        for first, second, told in (
            (MORE, MORE, {1: "a-b", 2: "c"}), (MORE, LESS, {1: "a-b", 2: "c"}),
            (LESS, MORE, {1: "a", 2: "b-c"}), (LESS, LESS, {1: "a", 2: "b-c"}),
        ):
            pattern = row_of([("group", 1, first), ("sign", "-"), ("group", 2, second)])
            self.assertEqual(taken(pattern, "a-b-c"), told)

    def test_more_and_less_exchanged_take_other_parts(self):
        pattern = ("row", ("group", 1, MORE), ("group", 2, LESS))
        self.assertEqual(taken(pattern, "abc"), {1: "abc", 2: ""})
        self.assertEqual(taken(exchanged(pattern), "abc"), {1: "", 2: "abc"})

    def test_groups_within_groups(self):
        pattern = ("group", 4, row_of([("group", 1, A), ("group", 3, ("row", B, ("group", 2, MORE)))]))
        self.assertEqual(taken(pattern, "abcd"), {4: "abcd", 1: "a", 3: "bcd", 2: "cd"})

    def test_the_last_round_counts(self):
        self.assertEqual(taken(("more", ("group", 1, ANY)), "abc"), {1: "c"})
        self.assertEqual(taken(("less", ("group", 1, ("or", ("row", ANY, ANY), ANY))), "abc"), {1: "c"})
        self.assertEqual(taken(("less", ("group", 1, ("or", ANY, ("row", ANY, ANY)))), "abc"), {1: "c"})

    def test_a_group_of_an_earlier_round_keeps_what_it_took(self):
        pattern = ("more", ("or", ("group", 1, A), ("group", 2, ("row", B, ("group", 3, MORE)))))
        self.assertEqual(taken(pattern, "aab a"), {1: "a", 2: "b a", 3: " a"})
        self.assertEqual(taken(("more", ("or", ("group", 1, A), B)), "abb"), {1: "a"})

    def test_what_a_dead_end_closed_does_not_count(self):
        pattern = ("or", ("row", ("group", 1, A), B), ("row", ("group", 2, A), ANY))
        self.assertEqual(taken(pattern, "aa"), {1: None, 2: "a"})
        tried = ("row", ("more", ("group", 1, ("row", A, B))), ("more", ("group", 2, ANY)))
        self.assertEqual(taken(tried, "abac"), {1: "ab", 2: "c"})

    def test_a_group_that_took_nothing_beside_one_that_was_never_closed(self):
        pattern = row_of([("group", 1, NONE), ("more", ("group", 2, A)), ("group", 3, LESS)])
        self.assertEqual(taken(pattern, ""), {1: "", 2: None, 3: ""})
        self.assertEqual(taken(("or", ("group", 1, NONE), ("group", 2, NONE)), ""), {1: "", 2: None})

    def test_the_side_of_an_or_that_counts(self):
        pattern = ("or", ("group", 1, ("row", A, A)), ("group", 2, ("more", A)))
        self.assertEqual(taken(pattern, "aa"), {1: "aa", 2: None})
        self.assertEqual(taken(pattern, "a"), {1: None, 2: "a"})
        self.assertEqual(taken(pattern, ""), {1: None, 2: ""})

    def test_line_ends_and_blanks(self):
        line = ("less", ANY)
        pattern = row_of([("group", 1, line), ("sign", "\n"), ("group", 2, line), ("sign", " "), ("group", 3, MORE)])
        self.assertEqual(taken(pattern, "\n\n \n "), {1: "", 2: "\n", 3: "\n "})
        self.assertEqual(taken(pattern, " a\nb  c\n"), {1: " a", 2: "b", 3: " c\n"})
        self.assertIs(taken(pattern, " \na"), None)
        self.assertEqual(taken(("group", 1, exact(" \n ")), " \n "), {1: " \n "})

    def test_numbers_of_any_size_in_the_order_of_the_parts(self):
        pattern = row_of([("group", HUGE, ("group", 2, A)), ("group", 2 ** 64, MORE), ("more", ("group", 1, B))])
        self.assertEqual(list(taken(pattern, "abb").items()), [(HUGE, "a"), (2, "a"), (2 ** 64, "bb"), (1, None)])

    def test_many_patterns_and_texts(self):
        patterns = small_patterns(3) + small_patterns(4) + small_patterns(5)[::7]
        for pattern in patterns + mixed_patterns(300, range(6, 15), 4):
            for text in texts_of("ab", 3) + ["abba", "aaaab"]:
                with telling(pattern, text):
                    self.assert_taken_on_the_first_way(pattern, text)

    def assert_taken_on_the_first_way(self, pattern, text):
        ways = all_ways(pattern, text)
        found = taken(pattern, text)
        self.assertIs(fits(pattern, text), bool(ways))
        if not ways:
            self.assertIs(found, None)
            self.assertIs(first_way(pattern, text), None)
            return
        way, told = ways[0]
        self.assertEqual(first_way(pattern, text), way)
        self.assertEqual(marks(pattern, text, way), {**dict.fromkeys(group_numbers(pattern)), **told})
        self.assertEqual(list(found.items()), [
            (number, text[told[number][0]:told[number][1]] if number in told else None)
            for number in group_numbers(pattern)
        ])

    def test_kinds_of_values(self):
        found = taken(("row", ("group", 1, A), ("more", ("group", 2, A))), "a")
        self.assertIs(type(found), dict)
        self.assertEqual([type(number) for number in found], [int, int])
        self.assertIs(type(found[1]), str)
        self.assertIs(found[2], None)


class LongTest(PromptCase):
    """Points 1 and 3: texts of 120 signs, patterns of 100 parts."""

    def test_rounds_behind_each_other(self):
        text = ("ab \n~" * 24)[:119] + "z"
        for name in ("more", "less"):
            rounds = [("group", number, (name, ANY)) for number in range(24, 0, -1)]
            pattern = row_of(rounds + [("sign", "z")])
            long_one = 24 if name == "more" else 1
            told = {number: text[:-1] if number == long_one else "" for number in range(24, 0, -1)}
            self.assertEqual(list(taken(pattern, text).items()), list(told.items()))
            self.assertIs(fits(pattern, text), True)
            self.assertIs(fits(pattern, text[:-1]), False)
            self.assertIs(taken(pattern, text[:-1]), None)

    def test_a_long_chain_of_groups(self):
        pattern = A
        for number in range(1, 100):
            pattern = ("group", number, pattern)
        self.assertEqual(list(taken(pattern, "a").items()), [(number, "a") for number in range(99, 0, -1)])
        self.assertIs(taken(pattern, "b"), None)
        self.assertIs(fits(pattern, "a"), True)
        self.assertIs(fits(pattern, ""), False)

    def test_a_long_chain_of_rounds(self):
        for name in ("more", "less"):
            pattern = ("group", 1, A)
            for number in range(2, 26):
                pattern = ("group", number, ("row", A, (name, pattern)))
            text = "a" * 120
            self.assertEqual(taken(pattern, text)[25], text)
            self.assertIs(fits(pattern, text), True)
            self.assertIs(fits(exchanged(pattern), text), True)
            self.assertIs(fits(pattern, text + "b"), False)

    def test_a_long_row(self):
        text = "ab \n" * 12
        pattern = ("row", ("group", 1, exact(text)), ("group", 2, MORE))
        self.assertEqual(taken(pattern, text), {1: text, 2: ""})
        self.assertEqual(taken(pattern, text + "c" * 72), {1: text, 2: "c" * 72})
        self.assertIs(taken(pattern, text[1:]), None)


if __name__ == "__main__":
    unittest.main()
