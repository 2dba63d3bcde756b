"""The errors of the package; each keeps what it was made with."""


class TraceError(ValueError):
    """What the errors of this package but `NoRow` and `NoService` derive from."""


class InvalidRow(TraceError):
    """A row was made with a wrong argument."""

    def __init__(self, word):
        self.word = word


class InvalidService(TraceError):
    """A service was made with a wrong argument."""

    def __init__(self, word):
        self.word = word


class InvalidBook(TraceError):
    """A book was made of what is none."""

    def __init__(self, word):
        self.word = word


class InvalidText(TraceError):
    """A line of a text can't stand where it stands."""

    def __init__(self, at):
        self.at = at


class InvalidTree(TraceError):
    """A call or an event was made with a wrong argument."""

    def __init__(self, word):
        self.word = word


class InvalidCommand(TraceError):
    """A desk was given what is no command for it."""


class Mismatch(TraceError):
    """Two books, or a tree and a book, do not belong together."""


class Refused(TraceError):
    """A live trace can't do what it was told."""

    def __init__(self, word):
        self.word = word


class NoRow(IndexError):
    """A book has no row of this number."""

    def __init__(self, at):
        self.at = at


class NoService(KeyError):
    """A book has no service of this name."""

    def __init__(self, name):
        self.name = name
