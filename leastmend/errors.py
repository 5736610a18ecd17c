"""The errors of the program, each one with one integer that says where it is."""


class MendError(ValueError):
    """The base class of all errors of the program."""

    def __init__(self, at):
        # No message is made of the integer: Python refuses to write very long ones.
        self.at = at


class BadLine(MendError):
    """A line of a text is not a rule."""


class TakenRule(MendError):
    """A rule stands in a line before, too."""


class TooLarge(MendError):
    """A text has more lines than a grammar has rules."""


class UnknownSymbol(MendError):
    """A rule has a symbol that is neither a known kind nor a name with a rule."""


class NoRow(MendError):
    """The name of a rule derives no row."""


class NotReached(MendError):
    """The name of a rule is not reached from the start."""


class BadKinds(MendError):
    """A tuple is not a lexicon."""


class OutOfRange(MendError):
    """A replacement or an edit is not within the row or the text."""


class TooManySigns(MendError):
    """A row has more signs than a table is made for."""


class TooLong(MendError):
    """A text has more characters than are cut into signs."""


class BadMend(MendError):
    """A mend is out of range or out of order."""
