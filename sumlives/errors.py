"""The errors of the package; each of them is a SumError."""


class SumError(ValueError):
    """Something that the package does not take."""


class InvalidVector(SumError):
    """A width, a vector or a sequence of vectors is none."""


class InvalidText(SumError):
    """A text goes wrong at this word or line."""

    def __init__(self, at):
        self.at = at


class InvalidRow(SumError):
    """A part of a row, a test, an event, a worth or a handler is wrong."""

    def __init__(self, part):
        self.part = part


class InvalidBook(SumError):
    """A part of a book is wrong."""

    def __init__(self, word):
        self.word = word


class InvalidLife(SumError):
    """A life goes wrong at this deed."""

    def __init__(self, at):
        self.at = at


class InvalidCommand(SumError):
    """A desk does not know this command."""


class NoStatement(SumError):
    """A book has no statement of this number."""

    def __init__(self, at):
        self.at = at


class NoTotal(SumError):
    """A book has no total of this name."""

    def __init__(self, name):
        self.name = name


class NoEvent(SumError):
    """A book has no event of this name."""

    def __init__(self, name):
        self.name = name


class Mismatch(SumError):
    """Things that do not fit together."""


class Refused(SumError):
    """A store does not do a deed, because of this part of it."""

    def __init__(self, word):
        self.word = word
