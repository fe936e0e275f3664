"""Taking: whether a pattern fits a text, and which part of it each group took."""

from groupmarks.trying import first_way
from groupmarks.walking import marks


def fits(pattern, text):
    """Whether some way fits."""
    return first_way(pattern, text) is not None


def taken(pattern, text):
    """The part of the text that each group took on the first way; None where no way fits."""
    way = first_way(pattern, text)
    if way is None:
        return None
    found = marks(pattern, text, way)
    return {number: _part(text, found[number]) for number in found}


def _part(text, mark):
    """The part of the text between the places of a mark; None for a group without a mark."""
    if mark is None:
        return None
    begin, close = mark
    return text[begin:close]
