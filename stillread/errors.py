"""All errors of the package."""


class StillError(ValueError):
    """What all errors about the form of a value derive from."""


class InvalidText(StillError):
    """No text, or none of the told kind."""


class InvalidBody(StillError):
    """No body of a frame."""


class InvalidFrames(StillError):
    """No frames of one archive."""


class InvalidName(StillError):
    """No name of an entry."""


class InvalidCells(StillError):
    """No cells, or not so many as are told."""


class InvalidPoly(StillError):
    """No poly, no places or no points."""


class InvalidDeed(StillError):
    """No deed, or no mark of one."""


class InvalidTree(StillError):
    """No tree."""


class InvalidSave(StillError):
    """No save, or no name of one."""


class InvalidHistory(StillError):
    """No history."""


class InvalidSketch(StillError):
    """No sketch of saves."""


class InvalidQuestion(StillError):
    """No question."""


class InvalidDamage(StillError):
    """No script for the text."""


class InvalidOperation(StillError):
    """What cannot be done with these arguments."""


class ParseError(StillError):
    """A text of nothing; `at` tells how far it is right."""

    def __init__(self, at):
        StillError.__init__(self, f"right up to {at!r}")
        self.at = at


class InvalidNumber(IndexError):
    """No integer, or none within the bounds; `given` is what was passed."""

    def __init__(self, given):
        IndexError.__init__(self, f"given {given!r}")
        self.given = given


class UnknownName(KeyError):
    """A name that is not there; `wanted` is this name."""

    def __init__(self, wanted):
        KeyError.__init__(self, f"wanted {wanted!r}")
        self.wanted = wanted


class TooMany(OverflowError):
    """More than there may be; `most` is the bound."""

    def __init__(self, most):
        OverflowError.__init__(self, f"at most {most!r}")
        self.most = most


class Refused(ArithmeticError):
    """What is well formed and cannot be done; `reason` begins with a word."""

    def __init__(self, reason):
        ArithmeticError.__init__(self, f"refused: {reason!r}")
        self.reason = reason
