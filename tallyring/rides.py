"""Rides, their books, and how riders stand on the ring."""

from tallyring.kinds import is_number_tuple
from tallyring.tables import amiss, table_by


def is_ride(thing):
    if not is_number_tuple(thing) or len(thing) == 0:
        return False
    many = len(thing)
    return len({place % many for place in thing}) == many


def book_of(ride):
    many = len(ride)
    return table_by(many, lambda i, j: (ride[i] - ride[j]) // many)


def stands_nearer(book, one, other):
    """Whether one stands nearer behind rider 0 than other; rider 0 itself is nearest."""
    low = min(one, other)
    high = max(one, other)
    # The tallies of a three are 1 off just where the higher number stands nearer.
    high_is_nearer = book[0][high] - book[0][low] - book[low][high] == 1
    return high_is_nearer == (one > other)


def spots_behind_first(book, rider):
    return len([one for one in range(len(book)) if one != rider and stands_nearer(book, one, rider)])


def places_of(book):
    """The ride of a book whose first place is 0."""
    many = len(book)
    # All spots are taken, so a rider's rest is how many stand nearer behind rider 0.
    return tuple([-(many * book[0][rider] + spots_behind_first(book, rider)) for rider in range(many)])


def ride_of(table):
    three = amiss(table)
    if three is not None:
        return ("three", three)
    return ("ride", places_of(table))


def plain(ride):
    # Rides of one book differ only by how many spots on all of them stand.
    return tuple([place - ride[0] for place in ride])


def behind(book, rider):
    many = len(book)
    places = places_of(book)
    others = [one for one in range(many) if one != rider]
    return sorted(others, key=lambda other: (places[rider] - places[other]) % many)
