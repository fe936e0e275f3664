"""Points 6 and 7: the first state, the end, and what a state leads on to."""

import unittest

from groupmarks.states import first_state, is_end, onward

A = ("sign", "a")
B = ("sign", "b")
ANY = ("any",)
NONE = ("none",)
BEHINDS = ((), (B,), (("close", 2),), (B, ("close", 3), ("more", A)))


class FirstStateTest(unittest.TestCase):
    """Point 6: the first state."""

    def test_each_form(self):
        for pattern in (
            A, ANY, NONE, ("row", A, B), ("or", A, B), ("more", A), ("less", A), ("group", 1, A),
            ("group", 2, ("row", ("more", A), ("or", B, NONE))),
        ):
            self.assertEqual(first_state(pattern), ((pattern,), 0))

    def test_kinds_of_values(self):
        state = first_state(A)
        self.assertIs(type(state), tuple)
        self.assertIs(type(state[0]), tuple)
        self.assertIs(type(state[1]), int)


class IsEndTest(unittest.TestCase):
    """Point 6: the end of a text."""

    def test_the_end(self):
        for text in ("", "a", "ab", "a b\n", "\n", "a" * 120):
            self.assertIs(is_end(((), len(text)), text), True)

    def test_another_place(self):
        for text in ("a", "ab", "a b\n", "\n"):
            for place in range(len(text)):
                self.assertIs(is_end(((), place), text), False)

    def test_something_left_to_do(self):
        for thing in (A, ANY, NONE, ("more", A), ("less", A), ("group", 1, NONE), ("close", 1)):
            for text in ("", "a", "ab"):
                self.assertIs(is_end(((thing,), len(text)), text), False)
                self.assertIs(is_end(((thing, NONE), len(text)), text), False)

    def test_the_end_of_one_text_is_not_that_of_another_one(self):
        self.assertIs(is_end(((), 1), "ab"), False)
        self.assertIs(is_end(((), 2), "ab"), True)
        self.assertIs(is_end(((), 2), "a\n"), True)
        self.assertIs(is_end(((), 2), "a \n"), False)

    def test_the_first_state_of_an_empty_text(self):
        self.assertIs(is_end(first_state(NONE), ""), False)


class OnwardTest(unittest.TestCase):
    """Point 7."""

    def assert_takes_one(self, thing, text, place):
        for behind in BEHINDS:
            with self.subTest(thing=thing, text=text, place=place, behind=behind):
                self.assertEqual(onward(((thing,) + behind, place), text), [(behind, place + 1)])

    def assert_stops(self, thing, text, place):
        for behind in BEHINDS:
            with self.subTest(thing=thing, text=text, place=place, behind=behind):
                self.assertEqual(onward(((thing,) + behind, place), text), [])

    def assert_leads_to(self, thing, aheads):
        """The thing gives way to each of aheads, in order, at every place of a text."""
        for text in ("", "ab", "b a\n"):
            for place in range(len(text) + 1):
                for behind in BEHINDS:
                    with self.subTest(thing=thing, text=text, place=place, behind=behind):
                        self.assertEqual(
                            onward(((thing,) + behind, place), text),
                            [(ahead + behind, place) for ahead in aheads],
                        )

    def test_a_sign_that_the_text_has(self):
        self.assert_takes_one(A, "ab", 0)
        self.assert_takes_one(B, "ab", 1)
        self.assert_takes_one(A, "bbba", 3)

    def test_a_sign_that_the_text_has_elsewhere_only(self):
        self.assert_stops(B, "ab", 0)
        self.assert_stops(A, "ab", 1)
        self.assert_stops(("sign", "A"), "a", 0)
        self.assert_stops(("sign", " "), "\n", 0)
        self.assert_stops(("sign", "\n"), " ", 0)

    def test_a_sign_at_the_end(self):
        self.assert_stops(A, "", 0)
        self.assert_stops(A, "a", 1)
        self.assert_stops(B, "ab", 2)
        self.assert_stops(("sign", "\n"), "a\n", 2)

    def test_a_sign_that_is_a_blank_or_a_line_end(self):
        self.assert_takes_one(("sign", " "), "a b", 1)
        self.assert_takes_one(("sign", "\n"), "a\nb", 1)
        self.assert_takes_one(("sign", "\n"), "a\n", 1)

    def test_an_any_takes_whichever_sign(self):
        text = "a .~[(0\n|\\\""
        for place in range(len(text)):
            self.assert_takes_one(ANY, text, place)

    def test_an_any_at_the_end(self):
        self.assert_stops(ANY, "", 0)
        self.assert_stops(ANY, "a", 1)
        self.assert_stops(ANY, "a \n", 3)

    def test_a_none(self):
        self.assert_leads_to(NONE, [()])

    def test_a_row(self):
        self.assert_leads_to(("row", A, B), [(A, B)])
        self.assert_leads_to(("row", B, A), [(B, A)])
        self.assert_leads_to(("row", ("row", A, B), NONE), [(("row", A, B), NONE)])

    def test_an_or(self):
        self.assert_leads_to(("or", A, B), [(A,), (B,)])
        self.assert_leads_to(("or", B, A), [(B,), (A,)])
        self.assert_leads_to(("or", A, A), [(A,), (A,)])

    def test_a_more(self):
        self.assert_leads_to(("more", A), [(A, ("more", A)), ()])
        inner = ("row", A, ("less", B))
        self.assert_leads_to(("more", inner), [(inner, ("more", inner)), ()])

    def test_a_less(self):
        self.assert_leads_to(("less", A), [(), (A, ("less", A))])
        inner = ("row", A, ("more", B))
        self.assert_leads_to(("less", inner), [(), (inner, ("less", inner))])

    def test_a_group(self):
        self.assert_leads_to(("group", 1, A), [(A, ("close", 1))])
        self.assert_leads_to(("group", 2 ** 70, NONE), [(NONE, ("close", 2 ** 70))])
        self.assert_leads_to(("group", 3, ("group", 4, A)), [(("group", 4, A), ("close", 3))])

    def test_a_close(self):
        self.assert_leads_to(("close", 1), [()])
        self.assert_leads_to(("close", 2 ** 70), [()])

    def test_a_state_without_a_rest(self):
        for text in ("", "a", "ab", "\n"):
            for place in range(len(text) + 1):
                self.assertEqual(onward(((), place), text), [])

    def test_kinds_of_values(self):
        for thing in (A, ANY, NONE, ("row", A, B), ("or", A, B), ("more", A), ("less", A), ("close", 1)):
            found = onward(((thing, B), 0), "ab")
            self.assertIs(type(found), list)
            for state in found:
                self.assertIs(type(state), tuple)
                self.assertIs(type(state[0]), tuple)
                self.assertIs(type(state[1]), int)

    def test_the_list_is_new_each_time(self):
        state = ((A,), 0)
        onward(state, "a").clear()
        self.assertEqual(onward(state, "a"), [((), 1)])
        onward(((), 1), "a").append(state)
        self.assertEqual(onward(((), 1), "a"), [])


class WholeWalkTest(unittest.TestCase):
    """Points 6 and 7 together."""

    def walked(self, pattern, text, choices):
        """All states from the first one on, where choices tell which one follows."""
        states = [first_state(pattern)]
        left = list(choices)
        while following := onward(states[-1], text):
            chosen = left.pop(0) if len(following) == 2 else 0
            states.append(following[chosen])
        self.assertEqual(left, [])
        return states

    def test_a_walk_to_the_end(self):
        more = ("more", ANY)
        group = ("group", 4, more)
        pattern = ("row", group, B)
        states = self.walked(pattern, "ab", [0, 1])
        self.assertEqual(states, [
            ((pattern,), 0),
            ((group, B), 0),
            ((more, ("close", 4), B), 0),
            ((ANY, more, ("close", 4), B), 0),
            ((more, ("close", 4), B), 1),
            ((("close", 4), B), 1),
            ((B,), 1),
            ((), 2),
        ])
        self.assertIs(is_end(states[-1], "ab"), True)

    def test_a_walk_that_stops_short(self):
        pattern = ("row", ("less", A), ("or", B, NONE))
        states = self.walked(pattern, "aab", [1, 0, 1])
        self.assertEqual(states, [
            ((pattern,), 0),
            ((("less", A), ("or", B, NONE)), 0),
            ((A, ("less", A), ("or", B, NONE)), 0),
            ((("less", A), ("or", B, NONE)), 1),
            ((("or", B, NONE),), 1),
            ((NONE,), 1),
            ((), 1),
        ])
        self.assertIs(is_end(states[-1], "aab"), False)

    def test_a_long_chain_of_groups(self):
        pattern = A
        for number in range(99, 0, -1):
            pattern = ("group", number, pattern)
        states = self.walked(pattern, "a", [])
        self.assertEqual(len(states), 1 + 99 + 1 + 99)
        self.assertEqual(states[99], ((A,) + tuple(("close", n) for n in range(99, 0, -1)), 0))
        self.assertEqual(states[100], (tuple(("close", n) for n in range(99, 0, -1)), 1))
        self.assertEqual(states[-2], ((("close", 1),), 1))
        self.assertIs(is_end(states[-1], "a"), True)

    def test_a_long_row(self):
        pattern = NONE
        for _ in range(49):
            pattern = ("row", pattern, A)
        states = self.walked(pattern, "a" * 49, [])
        self.assertEqual(states[49], ((NONE,) + (A,) * 49, 0))
        self.assertIs(is_end(states[-1], "a" * 49), True)


if __name__ == "__main__":
    unittest.main()
