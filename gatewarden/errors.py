"""The errors of the package: each one stands directly below GateError."""


class GateError(ValueError):
    """The base class of all errors of the package."""


class BadText(GateError):
    """A text is the text of nothing."""


class Malformed(GateError):
    """A byte row is no packet; `reason` tells why."""

    def __init__(self, reason):
        self.reason = reason


class NoPlace(GateError):
    """There is no such place or chain in a book."""


class BadBook(GateError):
    """A value is not a book."""


class BadExchange(GateError):
    """A value is not an exchange."""


class NoTalk(GateError):
    """There is no talk of a key."""


class BadOrder(GateError):
    """An order does not fit what is to be ordered."""


class Unlike(GateError):
    """The chains of two books have not the same words."""


class TooMany(GateError):
    """Two books differ in too much for a double book."""


class TooLong(GateError):
    """A result would be longer than it may be."""


class BadLine(GateError):
    """A text of lines is the text of nothing; `line` is the number of the line that spoils it."""

    def __init__(self, line):
        self.line = line


class BadWord(GateError):
    """A value is not a word."""


class Unknown(GateError):
    """There is nothing of a name."""


class InUse(GateError):
    """A book is still the one of a gate."""


class Taken(GateError):
    """A name is taken already."""


class Full(GateError):
    """There is no room for more."""


class NothingToUndo(GateError):
    """There is no deed that could be taken back."""


class NoWay(GateError):
    """No history leads to some states."""
