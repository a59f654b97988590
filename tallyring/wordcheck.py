"""Whether a thing shows that some book keeps all words, or that none does."""

from tallyring.kinds import is_number
from tallyring.tables import is_book
from tallyring.words import has_end, keeps, told_by_end


def shows_kept(many, words, thing):
    return is_book(thing) and len(thing) == many and keeps(thing, words)


def is_end_of(words, thing):
    if not isinstance(thing, tuple) or len(thing) != 2:
        return False
    number, end = thing
    if not is_number(number) or not 0 <= number < len(words):
        return False
    return end in ("low", "high") and has_end(words[number], end)


def shows_ring(many, words, thing):
    if not isinstance(thing, list) or len(thing) < 2:
        return False
    if not all([is_end_of(words, part) for part in thing]):
        return False
    told = [told_by_end(words[number], end) for number, end in thing]
    starts = [a for a, b, number in told]
    ends = [b for a, b, number in told]
    if ends != starts[1:] + starts[:1] or len(set(starts)) != len(starts):
        return False
    return sum([number for a, b, number in told]) <= 0
