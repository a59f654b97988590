"""A ring kept over deeds."""

from tallyring.errors import NoDeed
from tallyring.fewest import apart
from tallyring.hands import handed
from tallyring.passing import passed, passed_all
from tallyring.rides import places_of
from tallyring.tables import first_table


class Ring:
    def __init__(self, book):
        self.first = book
        # A triple for each deed that stands: the book behind it, its passings, and how many hands it is.
        self.done = []
        self.begun = []

    def come_by(self, one, other):
        self.begun.append("come_by")
        self.done.append((passed(self.book(), one, other), 1, 0))

    def hand(self, rider, many):
        self.begun.append("hand")
        passings = abs(many) if len(self.first) > 1 else 0
        self.done.append((handed(self.book(), rider, many), passings, 1))

    def lead(self, row):
        self.begun.append("lead")
        self.done.append((passed_all(self.book(), row), len(row), 0))

    def undo(self):
        self.begun.append("undo")
        if len(self.done) == 0:
            return False
        self.done.pop()
        return True

    def book(self):
        return self.done[-1][0] if len(self.done) > 0 else self.first

    def ride(self):
        return places_of(self.book())

    def tally(self, one, other):
        return self.book()[one][other]

    def passings(self):
        return sum([passings for book, passings, hands in self.done])

    def hands(self):
        return sum([hands for book, passings, hands in self.done])

    def deeds(self):
        return len(self.done)

    def as_of(self, many):
        if many < 0 or many > len(self.done):
            raise NoDeed(many)
        ring = Ring(self.first)
        ring.done = self.done[:many]
        return ring

    def twin(self):
        return self.as_of(len(self.done))

    def saved(self):
        return self.passings() - apart(self.first, self.book())

    def log(self):
        # Nothing is asked amid a deed, and a refused one ends, too: so each begun one is in and out.
        return [(side, word) for word in self.begun for side in ("in", "out")]

    def __eq__(self, other):
        return isinstance(other, Ring) and self.book() == other.book()

    def __len__(self):
        return len(self.first)

    def __repr__(self):
        return f"Ring({len(self.first)} riders, {apart(first_table(len(self.first)), self.book())} apart)"
