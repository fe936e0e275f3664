"""States: what is still to be done, and how many signs were taken."""


def first_state(pattern):
    """The state in which the whole pattern is still to be done."""
    return ((pattern,), 0)


def is_end(state, text):
    """Whether the state is the end of the text."""
    return state == ((), len(text))


def onward(state, text):
    """The states that a state leads on to, in order."""
    rest, place = state
    if not rest:
        return []
    thing, behind = rest[0], rest[1:]
    if thing[0] in ("sign", "any"):
        return [(behind, place + 1)] if _takes(thing, text[place:place + 1]) else []
    return [(ahead + behind, place) for ahead in _unfolded(thing)]


def _takes(thing, sign):
    """Whether a sign or an any takes the sign; at the end of the text that is empty."""
    if thing[0] == "any":
        return sign != ""
    return sign == thing[1]


def _unfolded(thing):
    """What may come in the place of a thing that takes no sign itself, in order."""
    match thing:
        case ("row", p, q):
            return [(p, q)]
        case ("or", p, q):
            return [(p,), (q,)]
        case ("more", p):
            return [(p, thing), ()]
        case ("less", p):
            return [(), (p, thing)]
        case ("group", n, p):
            return [(p, ("close", n))]
        case _:
            return [()]
