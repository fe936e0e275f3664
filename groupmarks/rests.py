"""Rests: what may be still to be done on the walks of a pattern.

A rest may be nested too deep for the key of a dict, so each one is told by a number.
"""

from groupmarks.states import first_state, onward


def numbers_ahead(pattern):
    """For each rest, by its number, the numbers of those that it leads on to, in order.

    The rest of the first state has the number 0. Equal rests have one number.
    """
    first_rest, _ = first_state(pattern)
    rests = [first_rest]
    ahead = []
    while len(ahead) < len(rests):
        following = _led_on_to(rests[len(ahead)])
        ahead.append([_number(rest, rests) for rest in following])
    return ahead


def _number(rest, rests):
    """The number of a rest; one that is not among the rests yet is put behind them."""
    if rest not in rests:
        rests.append(rest)
    return rests.index(rest)


def _led_on_to(rest):
    """The rests that a rest leads on to where the text has the sign that it wants."""
    return [behind for behind, _ in onward((rest, 0), _wanted_sign(rest))]


def _wanted_sign(rest):
    if rest and rest[0][0] == "sign":
        return rest[0][1]
    # An any takes whichever sign; all other things want none.
    return "a"
