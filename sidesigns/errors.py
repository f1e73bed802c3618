"""The errors that the package raises."""


class SignsError(ValueError):
    """The base of the errors that take a message."""


class InvalidRow(SignsError):
    """A value is no sign row of the kind that is asked for."""


class InvalidLot(SignsError):
    """A value is no lot of rows of the kind that is asked for."""


class InvalidTable(SignsError):
    """A value is no table."""


class InvalidSystem(SignsError):
    """A value is no system of the kind that is asked for."""


class InvalidPainting(SignsError):
    """A value is no painting."""


class InvalidWeb(SignsError):
    """A value is no web."""


class InvalidProgram(SignsError):
    """The far thing and the goal are the same thing."""


class InvalidOrder(SignsError):
    """A value is no order of the things."""


class InvalidOperation(SignsError):
    """A value is none that the operation takes."""


class ParseError(SignsError):
    """A string tells no value; the index of its first wrong line."""

    def __init__(self, index):
        self.index = index


class InvalidNumber(IndexError):
    """A value is no number of the kind that is asked for."""

    def __init__(self, value):
        self.value = value


class UnknownName(KeyError):
    """Nothing is kept under a name."""

    def __init__(self, name):
        self.name = name


class TooMany(OverflowError):
    """There are more than a limit allows."""

    def __init__(self, limit):
        self.limit = limit


class Refused(ArithmeticError):
    """What is asked for cannot be; a tuple tells why, and begins with a word."""

    def __init__(self, reason):
        self.reason = reason


class NothingToUndo(LookupError):
    """There are fewer deeds than are to be taken back or done again."""

    def __init__(self, times):
        self.times = times
