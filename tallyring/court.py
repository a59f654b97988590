"""A court that hears witnesses."""

from tallyring.errors import NoWord
from tallyring.words import first_wrong as first_wrong_of
from tallyring.words import judged
from tallyring.words import spans as spans_of


def broken_by(word):
    """The words one of which a book keeps just where it doesn't keep this one."""
    i, j, low, high = word
    below = [] if low is None else [(i, j, None, low - 1)]
    above = [] if high is None else [(i, j, high + 1, None)]
    return below + above


class Court:
    def __init__(self, many):
        self.riders = many
        # A pair for each deed that stands: ("hear", word) or ("strike", number).
        self.done = []

    def hear(self, word):
        number = len(self.all_of("hear"))
        self.done.append(("hear", word))
        return number

    def strike(self, number):
        if number not in self.numbers():
            raise NoWord(number)
        self.done.append(("strike", number))

    def all_of(self, name):
        return [what for deed, what in self.done if deed == name]

    def words(self):
        struck = self.all_of("strike")
        return [(number, word) for number, word in enumerate(self.all_of("hear")) if number not in struck]

    def numbers(self):
        return [number for number, word in self.words()]

    def bare_words(self):
        return [word for number, word in self.words()]

    def verdict(self):
        told, shown = judged(self.riders, self.bare_words())
        if told == "book":
            return (told, shown)
        numbers = self.numbers()
        return (told, [(numbers[at], end) for at, end in shown])

    def spans(self):
        return spans_of(self.riders, self.bare_words())

    def first_wrong(self):
        at = first_wrong_of(self.riders, self.bare_words())
        return None if at is None else self.numbers()[at]

    def is_needless(self, number):
        counting = dict(self.words())
        others = [counting[each] for each in counting if each != number]
        # No book keeps the others and breaks this one: so, too, where none keeps the others.
        return all([judged(self.riders, others + [word])[0] == "ring" for word in broken_by(counting[number])])

    def needless(self):
        return [number for number in self.numbers() if self.is_needless(number)]

    def undo(self):
        if len(self.done) == 0:
            return False
        self.done.pop()
        return True

    def twin(self):
        court = Court(self.riders)
        court.done = list(self.done)
        return court

    def __eq__(self, other):
        return isinstance(other, Court) and self.riders == other.riders and self.words() == other.words()

    def __len__(self):
        return len(self.words())

    def __repr__(self):
        return f"Court({self.riders} riders, {len(self.words())} words)"
