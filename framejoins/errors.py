"""The errors of the package; each keeps its argument itself as its field."""


class JoinError(ValueError):
    """What the errors about values of a wrong form have in common."""


class InvalidNumber(JoinError):
    """A value that is not an integer within its limits."""

    def __init__(self, value):
        self.value = value


class InvalidJoint(JoinError):
    """A value that is not a joint that can stand there."""

    def __init__(self, value):
        self.value = value


class InvalidSound(JoinError):
    """An item that is not a sample; None for the list as a whole."""

    def __init__(self, index):
        self.index = index


class InvalidTables(JoinError):
    """A value that is not tables, or not a table."""

    def __init__(self, value):
        self.value = value


class InvalidPlan(JoinError):
    """An item that breaks a rule of its list; None for the list as a whole."""

    def __init__(self, index):
        self.index = index


class InvalidStream(JoinError):
    """A record that breaks a rule of streams; None for the value as a whole."""

    def __init__(self, index):
        self.index = index


class InvalidCommand(JoinError):
    """A value that is not a command of the console."""

    def __init__(self, value):
        self.value = value


class ParseError(JoinError):
    """A line of a file that is not valid; None for the value as a whole."""

    def __init__(self, line):
        self.line = line


class ScriptError(JoinError):
    """A line of a script that is not valid; None for the value as a whole."""

    def __init__(self, line):
        self.line = line


class InvalidPlace(IndexError):
    """A value that is not a place, or not the number of a frame or a record."""

    def __init__(self, value):
        self.value = value


class UnknownName(KeyError):
    """A name that is none, or that nothing has."""

    def __init__(self, name):
        self.name = name


class LimitExceeded(OverflowError):
    """The limit that a result would go beyond."""

    def __init__(self, limit):
        self.limit = limit


class NothingToUndo(RuntimeError):
    """A count of operations of which there are not so many."""

    def __init__(self, count):
        self.count = count
