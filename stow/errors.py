"""The refusals: each a class of its own, all of them right under StowError."""


class StowError(ValueError):
    pass


# From NoName to NoRoom they stand in the order in which they go first where several are due at once.


class NoName(StowError):
    pass


class NoSize(StowError):
    pass


class Broken(StowError):
    def __init__(self, cell):
        self.cell = cell


class NoGive(StowError):
    pass


class NoHandle(StowError):
    pass


class NoPiece(StowError):
    pass


class NoCell(StowError):
    pass


class NoAsk(StowError):
    pass


class NoBound(StowError):
    pass


class NoRoom(StowError):
    pass


# These are never due beside another one.


class BadLine(StowError):
    def __init__(self, line):
        self.line = line


class NoLine(StowError):
    pass


class NoTurn(StowError):
    pass
