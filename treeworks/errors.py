"""The errors of the program (point 2)."""


class WorkError(ValueError):
    """The base class of all errors of the program."""


class BadTerm(WorkError):
    """A string is not written as a term or a row must be."""

    def __init__(self, term):
        self.term = term


class NoPlace(WorkError):
    """A path leads to no place."""

    def __init__(self, path):
        self.path = path


class BadCount(WorkError):
    """There are too few or too many of something."""

    def __init__(self, count):
        self.count = count


class BadName(WorkError):
    """A name is not a small name."""

    def __init__(self, name):
        self.name = name


class BadTable(WorkError):
    """A row of a table has a fault."""

    def __init__(self, row, reason):
        self.row = row
        self.reason = reason


class BadLine(WorkError):
    """A line is without its shape."""

    def __init__(self, line):
        self.line = line


class BadBlock(WorkError):
    """A block of a script leads to an error."""

    def __init__(self, line):
        self.line = line


class Unknown(WorkError):
    """A name is not known."""

    def __init__(self, name):
        self.name = name


class Repeated(WorkError):
    """A name is there already."""

    def __init__(self, name):
        self.name = name


class WrongTree(WorkError):
    """A tree is not right at a place."""

    def __init__(self, path):
        self.path = path


class WrongSign(WorkError):
    """A text is not right from an index on."""

    def __init__(self, at, expected):
        self.at = at
        self.expected = expected


class BadIndex(WorkError):
    """There is nothing with this number."""

    def __init__(self, index):
        self.index = index


class BadStage(WorkError):
    """A stage does not fit the one before it."""

    def __init__(self, index):
        self.index = index


class BadState(WorkError):
    """A state of a stage has a fault."""

    def __init__(self, index, reason):
        self.index = index
        self.reason = reason


class BadRow(WorkError):
    """A row of a state has a fault."""

    def __init__(self, state, row, reason):
        self.state = state
        self.row = row
        self.reason = reason


class Uncovered(WorkError):
    """No row of a state suits a tree."""

    def __init__(self, state, tree):
        self.state = state
        self.tree = tree


class Mismatch(WorkError):
    """Two things do not belong together."""


class LimitExceeded(WorkError):
    """Something is too large."""

    def __init__(self, limit):
        self.limit = limit


class NoTree(WorkError):
    """There is no such tree."""


class NotApart(WorkError):
    """Two paths are not apart."""


class BadCertificate(WorkError):
    """A line of a certificate cannot stand there."""

    def __init__(self, line):
        self.line = line


class BadPack(WorkError):
    """A pack has a fault."""

    def __init__(self, at):
        self.at = at


class BadPatch(WorkError):
    """A triple of a patch has a fault or fits no text."""

    def __init__(self, index):
        self.index = index


class NotRight(WorkError):
    """A document is not right."""


class NothingLeft(WorkError):
    """There is nothing left to take."""
