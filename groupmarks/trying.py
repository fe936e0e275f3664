"""Trying: the first way that fits, and the dead ends that were met before it."""

from groupmarks.patterns import checked
from groupmarks.rests import numbers_ahead
from groupmarks.states import first_state, is_end, onward


class Step:
    """A state on the path that is being tried, and which of its following states is tried."""

    def __init__(self, number, state, following):
        """number tells the state's rest; following are pairs, of a rest's number and a state."""
        self.key = (number, state[1])
        self.state = state
        self.following = following
        self.choice = -1


def first_way(pattern, text):
    """The first way, or None where no way fits."""
    path, _ = _tried(pattern, text)
    if not path:
        return None
    return [step.choice for step in path if len(step.following) == 2]


def dead_ends(pattern, text):
    """The dead ends: all states that were tried in vain, each behind those that it leads on to."""
    _, dead = _tried(pattern, text)
    return dead


def _tried(pattern, text):
    """The path to the end of the text, empty where no way fits, and the dead ends."""
    ahead = numbers_ahead(checked(pattern))
    path = [_step(0, first_state(pattern), text, ahead)]
    # What leads to no end does so however it is come to. Without this memory
    # there would be as many steps as there are ways.
    dead = {}
    while path and not is_end(path[-1].state, text):
        last = path[-1]
        last.choice += 1
        if last.choice == len(last.following):
            dead[last.key] = last.state
            path.pop()
        else:
            number, state = last.following[last.choice]
            if (number, state[1]) not in dead:
                path.append(_step(number, state, text, ahead))
    return path, list(dead.values())


def _step(number, state, text, ahead):
    # Where the text has not the sign that is wanted, onward gives nothing, and zip ends with it.
    return Step(number, state, list(zip(ahead[number], onward(state, text))))
