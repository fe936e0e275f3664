"""The refusals of the program."""


class MarkError(ValueError):
    """Any refusal."""


class BadPattern(MarkError):
    """A part of what was handed in has none of the forms of a pattern."""


class TwiceNumbered(MarkError):
    """Two groups of a pattern have one number."""


class EmptyRound(MarkError):
    """A more or a less goes over what may take nothing."""


class BadWay(MarkError):
    """A way does not fit the pattern and the text."""
