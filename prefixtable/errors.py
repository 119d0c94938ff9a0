"""The errors that the package raises."""


class PrefixError(ValueError):
    """The base of the errors that tell that a value has not the form that it needs."""


class InvalidPrefix(PrefixError):
    """A value is not a prefix of the base and the roots."""


class InvalidStream(PrefixError):
    """A value is not a stream in normal form of the base and the roots."""


class InvalidCode(PrefixError):
    """A value is not a code."""


class InvalidTable(PrefixError):
    """A value is not a table, or rows make no table."""


class InvalidRegion(PrefixError):
    """A value is not a region of the base and the roots."""


class InvalidGraph(PrefixError):
    """A value is not a graph."""


class InvalidMove(PrefixError):
    """A value is not a move, or the move is not possible."""


class InvalidOperation(PrefixError):
    """The values are right, but what is asked for cannot be done with them."""


class InvalidEdit(PrefixError):
    """A value is not an edit, or the edit is not possible."""


class ParseError(PrefixError):
    """A value is not the text of what is to be read."""


class InvalidNumber(IndexError):
    """A number is not one of those that may stand at its place."""

    def __init__(self, value):
        super().__init__("a number is not one of those that may stand here")
        self.value = value


class UnknownName(KeyError):
    """A name has no meaning here."""

    def __init__(self, name):
        super().__init__("a name has no meaning here")
        self.name = name


class NotTaken(LookupError):
    """A table does not take a prefix, as it takes parts of it in different ways."""

    def __init__(self, prefix):
        super().__init__("the table does not take this prefix as a whole")
        self.prefix = prefix


class TooMany(OverflowError):
    """There would be more of something than the limit allows."""

    def __init__(self, limit):
        super().__init__("there would be more than the limit allows")
        self.limit = limit


class NothingToUndo(RuntimeError):
    """There are fewer groups to undo, or to make again, than were asked for."""

    def __init__(self, count):
        super().__init__("there are not as many groups")
        self.count = count
