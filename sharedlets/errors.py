"""The errors of the package."""


class LetError(ValueError):
    """What all errors about the form of a value are derived from."""


class InvalidName(LetError):
    """A value is no name."""


class InvalidTerm(LetError):
    """A value is no open term, or no term."""


class InvalidGraph(LetError):
    """A value is no graph, or nodes are not those of one."""


class InvalidFamily(LetError):
    """A value is no family, or definitions are not those of one."""


class InvalidAddress(LetError):
    """A value is no address, or leads to no place."""


class InvalidOperation(LetError):
    """An operation is not possible with these arguments."""


class InvalidEdit(LetError):
    """A value is no edit of a store."""


class ParseError(LetError):
    """A value is not a text of the wanted kind."""


class InvalidCommand(LetError):
    """A value is no command of the shell."""


class InvalidNumber(IndexError):
    """A value is not one of the allowed numbers."""

    def __init__(self, value):
        self.value = value


class UnknownName(KeyError):
    """An object has nothing of this name."""

    def __init__(self, name):
        self.name = name


class TooMany(OverflowError):
    """A limit would be passed."""

    def __init__(self, limit):
        self.limit = limit


class Chained(RuntimeError):
    """A family has a chain, so no term is alike."""

    def __init__(self, chain):
        self.chain = chain


class NothingToUndo(LookupError):
    """There are not so many steps to undo, or to do again."""

    def __init__(self, many):
        self.many = many
