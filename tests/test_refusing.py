"""Point 5, its last sentence: patterns are refused by whatever tries or walks them, ahead of all else."""

import unittest

from groupmarks.errors import BadPattern, BadWay, EmptyRound, MarkError, TwiceNumbered
from groupmarks.taking import fits, taken
from groupmarks.trying import dead_ends, first_way
from groupmarks.walking import marks, walk
from samples import A, ANY, B, NONE, PromptCase, row_of
from test_patterns import NO_PATTERNS

WALKERS = (walk, marks)
TRIERS = (first_way, dead_ends, fits, taken)

# Ways that fit none of the patterns below, whichever of the four causes it has.
UNFIT_WAYS = ([], [0], [1], [0, 1, 0, 1, 0, 1, 0, 1], [True], [2], [None], ["0"], [[0]], [0.5], [0, -1], [{}])

TWINS = (
    ("row", ("group", 1, A), ("group", 1, B)),
    ("group", 3, ("group", 3, A)),
    ("or", ("group", 2 ** 70, A), ("more", ("group", 2 ** 70, A))),
    row_of([A, ("group", 1, A), B, ("group", 2, A), ("less", ("group", 1, ANY))]),
)

EMPTY_ROUNDS = (
    ("more", NONE),
    ("less", NONE),
    ("more", ("less", A)),
    ("less", ("group", 1, ("more", A))),
    ("row", A, ("more", ("or", B, NONE))),
    ("or", ("group", 1, A), ("group", 2, ("less", ("row", NONE, ("more", A))))),
)

# Faults that stand beside a part without form, and are not what is told.
BAD_BESIDE_OTHERS = (
    ("row", ("more", NONE), ("many", A)),
    ("row", ("many", A), ("more", NONE)),
    ("row", ("group", 1, A), ("group", 1, ("sign", "ab"))),
    ("row", ("row", ("group", 1, ("more", NONE)), ("group", 1, A)), ("group", True, A)),
    ("more", ("row", NONE, ("group", 0, A))),
)

TWINS_BESIDE_EMPTY_ROUNDS = (
    ("row", ("more", NONE), ("row", ("group", 1, A), ("group", 1, A))),
    ("row", ("row", ("group", 1, A), ("group", 1, A)), ("less", NONE)),
    ("group", 1, ("more", ("group", 1, NONE))),
    ("less", ("more", ("row", ("group", 4, A), ("group", 4, A)))),
)


class RefusingTest(PromptCase):

    # Were a round over nothing walked, its states would fill the memory before long.
    seconds = 5

    def assert_refused(self, patterns, refusal):
        """By each of the six functions, with every text, and whatever the way is."""
        for pattern in patterns:
            for text in ("", "a", "aab\n"):
                for function in TRIERS:
                    with self.assertRaises(MarkError) as caught:
                        function(pattern, text)
                    self.assertIs(type(caught.exception), refusal)
                for function in WALKERS:
                    for way in UNFIT_WAYS:
                        with self.assertRaises(MarkError) as caught:
                            function(pattern, text, way)
                        self.assertIs(type(caught.exception), refusal)

    def test_bad_patterns(self):
        self.assert_refused(NO_PATTERNS, BadPattern)

    def test_bad_patterns_within_others(self):
        for inner in NO_PATTERNS:
            self.assert_refused(
                [("row", A, ("or", inner, B)), ("or", A, inner), ("more", inner), ("group", 1, ("less", inner))],
                BadPattern,
            )

    def test_groups_of_one_number(self):
        self.assert_refused(TWINS, TwiceNumbered)

    def test_rounds_over_what_may_take_nothing(self):
        self.assert_refused(EMPTY_ROUNDS, EmptyRound)

    def test_a_bad_pattern_is_told_ahead_of_the_others(self):
        self.assert_refused(BAD_BESIDE_OTHERS, BadPattern)

    def test_twins_are_told_ahead_of_empty_rounds(self):
        self.assert_refused(TWINS_BESIDE_EMPTY_ROUNDS, TwiceNumbered)

    def test_a_fault_that_no_way_comes_to(self):
        late = ("row", A, ("row", B, ("more", NONE)))
        self.assert_refused([late, ("or", A, ("more", NONE)), ("row", ("sign", "z"), ("less", NONE))], EmptyRound)
        for function in TRIERS:
            with self.assertRaises(BadPattern):
                function(("or", A, ("many", A)), "a")

    def test_a_refused_pattern_and_a_way_that_would_fit(self):
        for function in WALKERS:
            with self.assertRaises(TwiceNumbered):
                function(TWINS[0], "ab", [])
            with self.assertRaises(EmptyRound):
                function(("more", NONE), "", [1])
            with self.assertRaises(BadPattern):
                function(("or", A, ("many", A)), "a", [0])

    def test_a_good_pattern_and_an_unfit_way(self):
        for function in WALKERS:
            for way in UNFIT_WAYS:
                with self.assertRaises(BadWay):
                    function(("row", ("group", 1, ("more", A)), ("group", 2, B)), "ab", way)

    def test_good_patterns_are_not_refused(self):
        good = ("row", ("group", 2, ("more", A)), ("group", 1, ("or", B, NONE)))
        self.assertEqual(walk(good, "ab", [0, 1, 0])[-1], ((), 2))
        self.assertEqual(marks(good, "ab", [0, 1, 0]), {2: (0, 1), 1: (1, 2)})
        self.assertEqual(first_way(good, "ab"), [0, 1, 0])
        self.assertEqual(type(dead_ends(good, "ab")), list)
        self.assertIs(fits(good, "ab"), True)
        self.assertEqual(taken(good, "ab"), {2: "a", 1: "b"})


if __name__ == "__main__":
    unittest.main()
