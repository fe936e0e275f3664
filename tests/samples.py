"""Patterns and texts to try, and the plainest way to find out what fits them: trying all ways, one by one."""

import contextlib
import functools
import itertools
import random
import signal
import unittest

A = ("sign", "a")
B = ("sign", "b")
ANY = ("any",)
NONE = ("none",)

# What the groups of a made pattern are numbered with: neither in order nor without gaps.
NUMBERS = (5, 1, 2 ** 70, 3, 40, 2, 10 ** 400, 4) + tuple(range(100, 140))


def all_fittings(pattern, text, place=0):
    """All that the pattern may take from the place on, in the order of the ways.

    Each is told by the place behind it, the numbers of the way, and the marks of the closed groups.
    """
    name = pattern[0]
    if name in ("sign", "any"):
        if place < len(text) and (name == "any" or text[place] == pattern[1]):
            yield place + 1, [], {}
    elif name == "none":
        yield place, [], {}
    elif name == "row":
        yield from _in_turn(pattern[1], pattern[2], text, place)
    elif name == "or":
        yield from _with_number(0, all_fittings(pattern[1], text, place))
        yield from _with_number(1, all_fittings(pattern[2], text, place))
    elif name == "more":
        yield from _with_number(0, _in_turn(pattern[1], pattern, text, place))
        yield place, [1], {}
    elif name == "less":
        yield place, [0], {}
        yield from _with_number(1, _in_turn(pattern[1], pattern, text, place))
    elif name == "group":
        for end, way, marks in all_fittings(pattern[2], text, place):
            yield end, way, {**marks, pattern[1]: (place, end)}


def _in_turn(p, q, text, place):
    for middle, way, marks in all_fittings(p, text, place):
        for end, later_way, later_marks in all_fittings(q, text, middle):
            yield end, way + later_way, {**marks, **later_marks}


def _with_number(number, fittings):
    for end, way, marks in fittings:
        yield end, [number] + way, marks


def all_ways(pattern, text):
    """Pairs of a way that fits the whole text and its marks, in order."""
    return [(way, marks) for end, way, marks in all_fittings(pattern, text) if end == len(text)]


def group_numbers(pattern):
    """The numbers of the pattern's groups, in the order of its parts."""
    own = [pattern[1]] if pattern[0] == "group" else []
    return own + [number for inner in pattern[1:] if isinstance(inner, tuple) for number in group_numbers(inner)]


def part_count(pattern):
    return 1 + sum(part_count(inner) for inner in pattern[1:] if isinstance(inner, tuple))


def texts_of(signs, longest):
    """All texts of these signs, from the empty one on, the longest of this length."""
    return ["".join(many) for length in range(longest + 1) for many in itertools.product(signs, repeat=length)]


def small_patterns(size):
    """All patterns of so many parts that are not refused."""
    return [_numbered(pattern, iter(NUMBERS)) for pattern, _ in _shapes(size)]


def mixed_patterns(many, sizes, seed):
    """So many patterns of the sizes, the same ones each time."""
    chance = random.Random(seed)
    made = []
    while len(made) < many:
        shape, _ = _mixed_shape(chance, chance.choice(sizes))
        made.append(_numbered(shape, iter(NUMBERS)))
    return made


@functools.cache
def _shapes(size):
    """Pairs of a pattern whose groups have no numbers yet, and whether it may take nothing."""
    return tuple(_new_shapes(size))


def _new_shapes(size):
    if size == 1:
        yield from ((A, False), (B, False), (ANY, False), (NONE, True))
    if size > 1:
        for p, nothing in _shapes(size - 1):
            yield ("group", None, p), nothing
            if not nothing:
                yield ("more", p), True
                yield ("less", p), True
    for left in range(1, size - 1):
        for (p, p_nothing), (q, q_nothing) in itertools.product(_shapes(left), _shapes(size - 1 - left)):
            yield ("row", p, q), p_nothing and q_nothing
            yield ("or", p, q), p_nothing or q_nothing


def _mixed_shape(chance, size):
    if size <= 1:
        return chance.choice([(A, False), (A, False), (B, False), (ANY, False), (NONE, True)])
    if size == 2 or chance.random() < 0.45:
        p, nothing = _mixed_shape(chance, size - 1)
        if nothing or chance.random() < 0.4:
            return ("group", None, p), nothing
        return (chance.choice(["more", "less"]), p), True
    left = chance.randrange(1, size - 1)
    p, p_nothing = _mixed_shape(chance, left)
    q, q_nothing = _mixed_shape(chance, size - 1 - left)
    if chance.random() < 0.6:
        return ("row", p, q), p_nothing and q_nothing
    return ("or", p, q), p_nothing or q_nothing


def _numbered(shape, numbers_left):
    if shape[0] == "group":
        number = next(numbers_left)
        return ("group", number, _numbered(shape[2], numbers_left))
    return tuple(_numbered(item, numbers_left) if isinstance(item, tuple) else item for item in shape)


def row_of(patterns):
    """One pattern that takes what the patterns take, one behind the other."""
    whole = patterns[-1]
    for pattern in patterns[-2::-1]:
        whole = ("row", pattern, whole)
    return whole


@contextlib.contextmanager
def telling(*what):
    """An error that comes from within tells what was tried."""
    try:
        yield
    except Exception as error:
        error.add_note(repr(what))
        raise


class PromptCase(unittest.TestCase):
    """Each test fails where it needs many seconds, instead of going on for ever."""

    seconds = 20

    def setUp(self):
        before = signal.signal(signal.SIGALRM, self.stop)
        self.addCleanup(signal.signal, signal.SIGALRM, before)
        signal.alarm(self.seconds)
        self.addCleanup(signal.alarm, 0)

    def stop(self, _signal, _frame):
        # The run has failed now; the other tests need not be waited for as long.
        PromptCase.seconds = 1
        raise AssertionError("no answer came in time")
