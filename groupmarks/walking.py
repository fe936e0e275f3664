"""Walking: the states that a way passes, and where its groups began and closed."""

from groupmarks.errors import BadWay
from groupmarks.patterns import checked, numbers
from groupmarks.states import first_state, is_end, onward


def walk(pattern, text, way):
    """All states of the way's walk, the first state and the end with them."""
    states = [first_state(checked(pattern))]
    # The next number stands last, so that it can be taken off the list.
    left = way[::-1]
    while not is_end(states[-1], text):
        states.append(_followed(onward(states[-1], text), left))
    if left:
        raise BadWay("numbers are left over")
    return states


def marks(pattern, text, way):
    """The marks of all groups on the way's walk; None for a group that was never closed."""
    states = walk(pattern, text, way)
    found = {number: None for number in numbers(pattern)}
    begun = {}
    # Only the end, the last of them, has nothing left to do.
    for rest, place in states[:-1]:
        thing = rest[0]
        if thing[0] == "group":
            begun[thing[1]] = place
        if thing[0] == "close":
            found[thing[1]] = (begun[thing[1]], place)
    return found


def _followed(following, left):
    """That of the following states which is walked on to; takes a number off left where it needs one."""
    if not following:
        raise BadWay("a state that is not the end leads on to nothing")
    if len(following) == 1:
        return following[0]
    if not left:
        raise BadWay("a number is wanted and none is left")
    choice = left.pop()
    if not _is_choice(choice):
        raise BadWay("what stands in the place of a number is neither 0 nor 1")
    return following[choice]


def _is_choice(thing):
    # Anything may stand in a way; True and 1.0 are equal to 1, but are no whole numbers.
    return type(thing) == int and thing in (0, 1)
