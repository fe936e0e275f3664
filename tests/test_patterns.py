"""Points 2 to 5: forms, parts, taking nothing, refusals."""

import unittest

from groupmarks.errors import BadPattern, EmptyRound, TwiceNumbered
from groupmarks.patterns import checked, numbers, parts, takes_nothing

A = ("sign", "a")
B = ("sign", "b")
C = ("sign", "c")
ANY = ("any",)
NONE = ("none",)
HUGE = 10 ** 5000

TWINS = ("row", ("group", 1, A), ("group", 1, B))
EMPTY_MORE = ("more", NONE)
EMPTY_LESS = ("less", NONE)
BAD = ("many", A)


class Hostile:
    """Ends in an error whatever it is asked."""

    def __eq__(self, other):
        raise RuntimeError("compared")

    def __len__(self):
        raise RuntimeError("measured")

    def __iter__(self):
        raise RuntimeError("iterated")

    def __getitem__(self, at):
        raise RuntimeError("opened")

    def __repr__(self):
        raise RuntimeError("shown")


class HostileText(str):

    def __eq__(self, other):
        raise RuntimeError("compared")

    def __hash__(self):
        raise RuntimeError("hashed")

    def __len__(self):
        raise RuntimeError("measured")


class HostileTuple(tuple):

    def __len__(self):
        raise RuntimeError("measured")

    def __getitem__(self, at):
        raise RuntimeError("opened")


NO_PATTERNS = [
    # wrong kinds of value
    0, 1, -1, 1.5, float("nan"), True, False, None, "", "any", "sign", b"any", [], {}, (), set(), object, len,
    ["any"], ["sign", "a"], {"any": 1}, {"sign": "a"}, Hostile(), HostileTuple(("any",)),
    # no name, an unknown name, a name of another kind
    ("a",), ("Any",), ("any ",), ("",), ("close", 1), ("many", A), ("star", A), ("row ", A, B),
    (1,), (None,), (True,), (b"any",), (("any",),), (["any"],), ({},), ([], A), (Hostile(),),
    (HostileText("any"),), (A,), (A, B),
    # too few and too many items
    ("sign",), ("sign", "a", "b"), ("any", A), ("any", None), ("none", A), ("none", ()),
    ("row",), ("row", A), ("row", A, B, C), ("or",), ("or", A), ("or", A, B, C),
    ("more",), ("more", A, B), ("less",), ("less", A, B),
    ("group",), ("group", 1), ("group", A), ("group", 1, A, B), ("group", 1, 2, A),
    # a list where a tuple is asked
    ("more", ["sign", "a"]), ("row", ["any"], A), ("row", A, ["any"]), ("or", [A, B], A), ("group", 1, ["any"]),
    # a sign that is no text, or not of one sign
    ("sign", ""), ("sign", "ab"), ("sign", "\n\n"), ("sign", 1), ("sign", None), ("sign", b"a"), ("sign", 97),
    ("sign", True), ("sign", ["a"]), ("sign", ("a",)), ("sign", {"a": 1}), ("sign", A), ("sign", Hostile()),
    ("sign", HostileText("a")),
    # numbers of groups
    ("group", 0, A), ("group", -1, A), ("group", -HUGE, A), ("group", True, A), ("group", False, A),
    ("group", "1", A), ("group", None, A), ("group", 1.0, A), ("group", 1.5, A), ("group", (1,), A),
    ("group", [1], A), ("group", {}, A), ("group", "", A), ("group", float("nan"), A), ("group", Hostile(), A),
    # p and q that are no patterns
    ("row", A, "b"), ("row", "a", B), ("or", A, None), ("or", None, A), ("more", "a"), ("more", 1), ("more", ()),
    ("less", {}), ("less", ()), ("group", 1, "a"), ("group", 1, 2), ("group", A, 1), ("group", 1, ()),
]


def surroundings(thing):
    """The thing at every place that a pattern has for another one, and deeper."""
    once = [
        ("row", thing, A), ("row", A, thing), ("or", thing, A), ("or", A, thing),
        ("more", thing), ("less", thing), ("group", 7, thing),
    ]
    deep = [
        ("or", ("row", A, ("group", 8, ("more", ("less", around)))), ("row", B, ANY))
        for around in once
    ]
    return once + deep


def chain(name, length, last):
    """Patterns of one form within each other, length of them around the last one."""
    pattern = last
    for number in range(length, 0, -1):
        if name == "group":
            pattern = ("group", number, pattern)
        elif name == "row p" or name == "or p":
            pattern = (name[:-2], pattern, A)
        elif name == "row q" or name == "or q":
            pattern = (name[:-2], A, pattern)
        else:
            pattern = (name, pattern)
    return pattern


class FormsTest(unittest.TestCase):
    """Point 2."""

    def assert_kept(self, pattern):
        self.assertIs(checked(pattern), pattern)

    def test_each_form_is_a_pattern(self):
        for pattern in (A, ANY, NONE, ("row", A, B), ("or", A, B), ("more", A), ("less", A), ("group", 1, A)):
            self.assert_kept(pattern)

    def test_forms_within_each_other(self):
        for pattern in (
            ("row", ("or", A, B), ("row", NONE, ANY)),
            ("or", ("more", ANY), ("less", ("or", A, B))),
            ("more", ("row", ("more", A), B)),
            ("less", ("group", 1, ("row", A, ("less", B)))),
            ("group", 2, ("group", 1, NONE)),
        ):
            self.assert_kept(pattern)

    def test_any_text_of_one_sign_is_a_sign(self):
        for sign in [chr(code) for code in range(32, 127)] + ["\n", "\t"]:
            self.assert_kept(("sign", sign))

    def test_numbers_of_groups_are_of_any_size(self):
        for number in (1, 2, 9, 10, 99, 2 ** 31, 2 ** 63, 2 ** 64 + 1, HUGE):
            self.assert_kept(("group", number, A))

    def test_what_is_no_pattern_is_refused(self):
        for at, thing in enumerate(NO_PATTERNS):
            with self.subTest(at=at):
                with self.assertRaises(BadPattern):
                    checked(thing)

    def test_what_is_no_pattern_is_refused_within_another_one(self):
        for at, thing in enumerate(NO_PATTERNS):
            for where, pattern in enumerate(surroundings(thing)):
                with self.subTest(at=at, where=where):
                    with self.assertRaises(BadPattern):
                        checked(pattern)

    def test_a_part_that_is_a_name_or_a_number_is_not_taken_for_a_pattern(self):
        for pattern in (("row", "any", "any"), ("or", "none", "none"), ("more", "any"), ("group", 1, 1)):
            with self.assertRaises(BadPattern):
                checked(pattern)

    def test_things_that_are_no_pattern_stay_as_they_are(self):
        inner = ["sign", "a"]
        outer = ["row", inner, {"any": inner}]
        for thing in (outer, ("more", outer), ("row", A, outer)):
            with self.assertRaises(BadPattern):
                checked(thing)
        self.assertEqual(outer, ["row", ["sign", "a"], {"any": ["sign", "a"]}])


class PartsTest(unittest.TestCase):
    """Point 3."""

    def test_forms_without_p_have_one_part(self):
        for pattern in (A, ANY, NONE):
            self.assertEqual(parts(pattern), [pattern])

    def test_forms_with_one_p(self):
        for pattern in (("more", A), ("less", A), ("group", 5, A)):
            self.assertEqual(parts(pattern), [pattern, A])

    def test_p_stands_ahead_of_q(self):
        for name in ("row", "or"):
            self.assertEqual(parts((name, A, B)), [(name, A, B), A, B])

    def test_all_parts_of_p_stand_ahead_of_q(self):
        left = ("or", ("more", A), B)
        right = ("row", C, ANY)
        self.assertEqual(
            parts(("row", left, right)),
            [("row", left, right), left, ("more", A), A, B, right, C, ANY],
        )

    def test_rows_ors_rounds_and_groups_within_each_other(self):
        inner = ("or", NONE, ("less", B))
        group = ("group", 2, ("row", A, inner))
        pattern = ("group", 1, ("row", ("more", A), ("or", group, ANY)))
        self.assertEqual(parts(pattern), [
            pattern,
            ("row", ("more", A), ("or", group, ANY)),
            ("more", A),
            A,
            ("or", group, ANY),
            group,
            ("row", A, inner),
            A,
            inner,
            NONE,
            ("less", B),
            B,
            ANY,
        ])

    def test_a_part_that_stands_twice_is_listed_twice(self):
        twice = ("more", A)
        pattern = ("row", twice, ("or", twice, A))
        self.assertEqual(parts(pattern), [pattern, twice, A, ("or", twice, A), twice, A, A])

    def test_numbers_stand_in_the_order_of_the_parts(self):
        pattern = ("row", ("group", 3, ("row", ("group", 9, A), ("group", 2, B))), ("more", ("group", 1, C)))
        self.assertEqual(numbers(pattern), [3, 9, 2, 1])
        self.assertEqual(numbers(("or", ("group", 2, A), ("less", ("group", 1, A)))), [2, 1])

    def test_numbers_without_groups(self):
        self.assertEqual(numbers(("row", A, ("more", ("or", ANY, NONE)))), [])
        self.assertEqual(numbers(A), [])

    def test_numbers_that_stand_twice_are_listed_twice(self):
        self.assertEqual(numbers(TWINS), [1, 1])
        self.assertEqual(numbers(("group", 4, ("group", 5, ("group", 4, A)))), [4, 5, 4])

    def test_numbers_of_any_size(self):
        pattern = ("row", ("group", HUGE, A), ("or", ("group", 1, A), ("group", 2 ** 64, A)))
        self.assertEqual(numbers(pattern), [HUGE, 1, 2 ** 64])

    def test_the_lists_are_new_each_time(self):
        pattern = ("group", 1, A)
        parts(pattern).clear()
        numbers(pattern).clear()
        self.assertEqual(parts(pattern), [pattern, A])
        self.assertEqual(numbers(pattern), [1])


class TakesNothingTest(unittest.TestCase):
    """Point 4."""

    def assert_may(self, *patterns):
        for pattern in patterns:
            with self.subTest(pattern=pattern):
                self.assertIs(takes_nothing(pattern), True)

    def assert_may_not(self, *patterns):
        for pattern in patterns:
            with self.subTest(pattern=pattern):
                self.assertIs(takes_nothing(pattern), False)

    def test_none_and_rounds_may(self):
        self.assert_may(NONE, ("more", A), ("less", A), ("more", ANY), ("less", ("row", A, B)))

    def test_sign_and_any_may_not(self):
        self.assert_may_not(A, ANY, ("sign", " "), ("sign", "\n"))

    def test_a_row_may_where_both_may(self):
        self.assert_may(("row", NONE, NONE), ("row", ("more", A), ("less", B)))
        self.assert_may_not(("row", A, B), ("row", NONE, A), ("row", A, NONE), ("row", ("more", A), A))

    def test_an_or_may_where_one_may(self):
        self.assert_may(("or", NONE, NONE), ("or", NONE, A), ("or", A, NONE), ("or", A, ("less", A)))
        self.assert_may_not(("or", A, B), ("or", ANY, A))

    def test_a_group_may_where_its_p_may(self):
        self.assert_may(("group", 1, NONE), ("group", 1, ("more", A)), ("group", 1, ("group", 2, NONE)))
        self.assert_may_not(("group", 1, A), ("group", 1, ANY), ("group", 1, ("group", 2, A)))

    def test_within_each_other(self):
        self.assert_may(
            ("row", ("or", A, NONE), ("or", NONE, A)),
            ("or", ("row", A, NONE), ("row", NONE, ("group", 1, ("less", A)))),
            ("group", 1, ("row", ("group", 2, ("more", A)), ("or", B, NONE))),
            ("row", NONE, ("row", ("row", NONE, NONE), NONE)),
        )
        self.assert_may_not(
            ("row", ("or", A, NONE), ("or", B, A)),
            ("row", ("or", A, B), ("or", NONE, A)),
            ("or", ("row", A, NONE), ("row", NONE, ("group", 1, A))),
            ("group", 1, ("row", ("group", 2, ("more", A)), ("or", B, C))),
            ("row", ("row", NONE, ("row", NONE, A)), NONE),
        )

    def test_rounds_over_what_may_take_nothing(self):
        self.assert_may(EMPTY_MORE, EMPTY_LESS, ("more", ("more", A)))


class CheckedTest(unittest.TestCase):
    """Point 5."""

    def assert_refused(self, refusal, pattern):
        with self.subTest(pattern=pattern):
            with self.assertRaises(refusal) as caught:
                checked(pattern)
            self.assertIs(type(caught.exception), refusal)

    def test_twice_numbered(self):
        for pattern in (
            TWINS,
            ("or", ("group", 2, A), ("group", 2, A)),
            ("group", 1, ("group", 1, A)),
            ("group", 1, ("row", A, ("more", ("group", 1, B)))),
            ("row", ("group", 1, A), ("row", ("group", 2, A), ("group", 1, A))),
            ("row", ("group", HUGE, A), ("group", HUGE, B)),
        ):
            self.assert_refused(TwiceNumbered, pattern)

    def test_the_very_same_group_twice_is_twice_numbered(self):
        group = ("group", 1, A)
        self.assert_refused(TwiceNumbered, ("row", group, group))

    def test_unlike_numbers_are_not_refused(self):
        pattern = ("row", ("group", HUGE, ("group", HUGE + 1, A)), ("or", ("group", 1, A), ("group", 2, A)))
        self.assertIs(checked(pattern), pattern)

    def test_empty_round(self):
        for name in ("more", "less"):
            for inner in (
                NONE,
                ("more", A),
                ("less", A),
                ("row", NONE, ("more", A)),
                ("or", A, NONE),
                ("or", NONE, A),
                ("group", 1, ("less", A)),
            ):
                self.assert_refused(EmptyRound, (name, inner))
                self.assert_refused(EmptyRound, ("row", A, ("group", 9, (name, inner))))
                self.assert_refused(EmptyRound, ("or", ("row", (name, inner), A), B))
                self.assert_refused(EmptyRound, ("more", ("row", A, (name, inner))))

    def test_rounds_over_what_takes_a_sign_are_not_refused(self):
        for name in ("more", "less"):
            for inner in (
                A, ANY, ("row", NONE, A), ("row", A, NONE), ("row", ("more", A), B), ("or", A, B), ("group", 1, A),
            ):
                pattern = (name, inner)
                self.assertIs(checked(pattern), pattern)

    def test_what_stands_beside_a_round_does_not_count(self):
        for pattern in (("row", ("more", A), NONE), ("or", NONE, ("less", A)), ("group", 1, ("more", A)), NONE):
            self.assertIs(checked(pattern), pattern)

    def test_bad_pattern_is_ahead_of_twice_numbered(self):
        for pattern in (
            ("row", BAD, TWINS),
            ("row", TWINS, BAD),
            ("group", 1, ("row", ("group", 1, A), BAD)),
            ("row", ("group", 1, A), ("group", 1, BAD)),
        ):
            self.assert_refused(BadPattern, pattern)

    def test_bad_pattern_is_ahead_of_empty_round(self):
        for empty in (EMPTY_MORE, EMPTY_LESS):
            self.assert_refused(BadPattern, ("row", BAD, empty))
            self.assert_refused(BadPattern, ("row", empty, BAD))
            self.assert_refused(BadPattern, ("more", ("or", empty, BAD)))
            self.assert_refused(BadPattern, ("more", ("or", NONE, ("more", BAD))))

    def test_twice_numbered_is_ahead_of_empty_round(self):
        for empty in (EMPTY_MORE, EMPTY_LESS):
            self.assert_refused(TwiceNumbered, ("row", TWINS, empty))
            self.assert_refused(TwiceNumbered, ("row", empty, TWINS))
            self.assert_refused(TwiceNumbered, ("more", ("or", TWINS, empty)))
            self.assert_refused(TwiceNumbered, ("row", ("group", 1, empty), ("group", 1, A)))

    def test_all_three_together(self):
        for pattern in (
            ("row", EMPTY_MORE, ("row", TWINS, BAD)),
            ("row", BAD, ("row", TWINS, EMPTY_LESS)),
            ("row", TWINS, ("row", BAD, EMPTY_MORE)),
        ):
            self.assert_refused(BadPattern, pattern)


class LargePatternsTest(unittest.TestCase):
    """Patterns of up to 100 parts, and things of more."""

    def test_long_chains_of_groups(self):
        pattern = chain("group", 99, A)
        self.assertEqual(numbers(pattern), list(range(1, 100)))
        self.assertEqual([part[0] for part in parts(pattern)], ["group"] * 99 + ["sign"])
        self.assertIs(takes_nothing(pattern), False)
        self.assertIs(takes_nothing(chain("group", 99, NONE)), True)
        self.assertIs(checked(pattern), pattern)

    def test_long_chains_of_rows_and_ors(self):
        for name in ("row", "or"):
            left = chain(name + " p", 49, B)
            self.assertEqual(
                [part[0] for part in parts(left)], [name] * 49 + ["sign"] * 50)
            self.assertEqual(parts(left)[49:], [B] + [A] * 49)
            right = chain(name + " q", 49, B)
            self.assertEqual(parts(right)[-3:], [(name, A, B), A, B])
            self.assertEqual(parts(right)[1::2], [A] * 49)
            for pattern in (left, right):
                self.assertEqual(len(parts(pattern)), 99)
                self.assertIs(takes_nothing(pattern), False)
                self.assertIs(checked(pattern), pattern)
            for pattern in (chain(name + " p", 49, NONE), chain(name + " q", 49, NONE)):
                self.assertIs(takes_nothing(pattern), name == "or")

    def test_long_chains_of_rounds(self):
        for name in ("more", "less"):
            pattern = chain(name, 99, A)
            self.assertEqual(len(parts(pattern)), 100)
            self.assertIs(takes_nothing(pattern), True)
            with self.assertRaises(EmptyRound):
                checked(pattern)

    def test_rounds_deep_within_each_other(self):
        pattern = A
        for _ in range(33):
            pattern = ("more", ("row", B, pattern))
        self.assertEqual(len(parts(pattern)), 100)
        self.assertIs(checked(pattern), pattern)

    def test_a_refusal_at_the_end_of_a_long_chain(self):
        for name in ("group", "row p", "row q", "or p", "or q"):
            for last, refusal in ((BAD, BadPattern), (EMPTY_MORE, EmptyRound), (TWINS, TwiceNumbered)):
                with self.assertRaises(refusal):
                    checked(chain(name, 48, last))

    def test_a_very_deep_thing_ends_in_no_other_error(self):
        for name in ("group", "row p", "row q", "or p", "or q", "more", "less"):
            with self.assertRaises(BadPattern):
                checked(chain(name, 20000, ()))
        for name in ("group", "row p", "row q", "or p", "or q"):
            pattern = chain(name, 20000, A)
            self.assertIs(checked(pattern), pattern)

    def test_two_huge_numbers_that_are_one_end_in_no_other_error(self):
        with self.assertRaises(TwiceNumbered):
            checked(("row", ("group", 10 ** 5000, A), ("group", 10 ** 5000, B)))


if __name__ == "__main__":
    unittest.main()
