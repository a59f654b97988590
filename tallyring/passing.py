"""Passings: who may come by whom next, and the book behind it."""

from tallyring.errors import NotNext
from tallyring.rides import book_of, places_of


def is_next_behind(places, one, other):
    many = len(places)
    # A number below 0 would be read as a place from the end.
    if not (0 <= one < many and 0 <= other < many):
        return False
    return (places[other] - places[one]) % many == 1


def next_pairs(book):
    many = len(book)
    places = places_of(book)
    return [(i, j) for i in range(many) for j in range(many) if is_next_behind(places, i, j)]


def passed(book, one, other):
    return passed_all(book, [(one, other)])


def passed_all(book, row):
    places = list(places_of(book))
    for one, other in row:
        if not is_next_behind(places, one, other):
            raise NotNext(one, other)
        places[one] += 1
        places[other] -= 1
    return book_of(places)
