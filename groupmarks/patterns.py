"""Patterns: their forms, their parts, and which of them are refused.

Nothing here calls itself, since checked may be handed tuples of any depth.
"""

from groupmarks.errors import BadPattern, EmptyRound, TwiceNumbered

# How many items a pattern of each name has, the name with them.
LENGTHS = {"sign": 2, "any": 1, "none": 1, "row": 3, "or": 3, "more": 2, "less": 2, "group": 3}


def parts(pattern):
    """All parts of the pattern: itself, then those of its p, then those of its q."""
    found = []
    waiting = [pattern]
    while waiting:
        part = waiting.pop()
        # checked comes here with anything at all, so no part is opened unseen.
        if not _has_form(part):
            raise BadPattern("a part has none of the forms of a pattern")
        found.append(part)
        waiting.extend(_inner(part)[::-1])
    return found


def numbers(pattern):
    """The numbers of the pattern's groups, in the order of its parts."""
    return _numbers_among(parts(pattern))


def takes_nothing(pattern):
    """Whether the pattern may take nothing."""
    return _takings(parts(pattern))[0]


def checked(pattern):
    """The pattern, if it is not refused. Anything at all may be handed in."""
    found = parts(pattern)
    if _has_twins(_numbers_among(found)):
        raise TwiceNumbered("two groups have one number")
    if _has_empty_round(found):
        raise EmptyRound("a more or a less goes over what may take nothing")
    return pattern


def _has_form(thing):
    """Whether a thing has one of the eight forms, whatever its p and q are."""
    # Kinds are compared exactly, so that no method of a strange class is run.
    if type(thing) != tuple or len(thing) == 0:
        return False
    name = thing[0]
    if type(name) != str or LENGTHS.get(name) != len(thing):
        return False
    if name == "sign":
        return _is_sign(thing[1])
    if name == "group":
        return _is_group_number(thing[1])
    return True


def _is_sign(thing):
    return type(thing) == str and len(thing) == 1


def _is_group_number(thing):
    # The kind of True and False is bool, so neither passes for 1 or 0.
    return type(thing) == int and thing >= 1


def _inner(part):
    """The patterns that stand directly in a part: its p, then its q."""
    if part[0] in ("row", "or"):
        return [part[1], part[2]]
    if part[0] in ("more", "less"):
        return [part[1]]
    if part[0] == "group":
        return [part[2]]
    return []


def _numbers_among(found):
    return [part[1] for part in found if part[0] == "group"]


def _has_twins(many):
    return len(set(many)) < len(many)


def _takings(found):
    """For each of a pattern's parts, in their order, whether it may take nothing."""
    takings = []
    # Read from the last one on, the parts come behind their own p and q. The
    # answers that no part has used yet wait in open_answers.
    open_answers = []
    for part in reversed(found):
        inner_answers = [open_answers.pop() for _ in _inner(part)]
        answer = _may_take_nothing(part[0], inner_answers)
        open_answers.append(answer)
        takings.append(answer)
    return takings[::-1]


def _may_take_nothing(name, inner_answers):
    if name in ("none", "more", "less"):
        return True
    if name in ("row", "group"):
        return all(inner_answers)
    return any(inner_answers)


def _has_empty_round(found):
    takings = _takings(found)
    # The part right behind a more or a less is its p.
    return any([takings[at + 1] for at, part in enumerate(found) if part[0] in ("more", "less")])
