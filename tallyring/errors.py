"""The refusals, each straight under one of Python's own errors."""


class NotNext(ValueError):
    """One rider isn't next behind the other one."""

    def __init__(self, one, other):
        ValueError.__init__(self, f"{one} is not next behind {other}")
        self.one = one
        self.other = other


class NoTurn(ValueError):
    """A way can't be turned at that place."""

    def __init__(self, at):
        ValueError.__init__(self, f"no turn at {at}")
        self.at = at


class NotThese(ValueError):
    """An order isn't of just the riders asked for."""

    def __init__(self):
        ValueError.__init__(self, "the order is not of just these riders")


class NotAgreed(ValueError):
    """Two riders don't agree."""

    def __init__(self, one, other):
        ValueError.__init__(self, f"{one} and {other} do not agree")
        self.one = one
        self.other = other


class BadRow(ValueError):
    """A row of a text isn't written as it must be."""

    def __init__(self, row):
        ValueError.__init__(self, f"row {row} is not so written")
        self.row = row


class Alone(ValueError):
    """Of one rider alone nobody can be left out."""

    def __init__(self):
        ValueError.__init__(self, "there is one rider alone")


class TooFar(OverflowError):
    """Two books are too many passings apart."""

    def __init__(self, apart):
        OverflowError.__init__(self, f"{apart} passings apart")
        self.apart = apart


class NoBook(LookupError):
    """No book keeps all words."""

    def __init__(self):
        LookupError.__init__(self, "no book keeps all words")


class NoDeed(LookupError):
    """There aren't so many deeds."""

    def __init__(self, many):
        LookupError.__init__(self, f"there are not {many} deeds")
        self.many = many


class NoWord(LookupError):
    """No word that counts has that number."""

    def __init__(self, number):
        LookupError.__init__(self, f"no word {number} counts")
        self.number = number
