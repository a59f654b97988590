"""The fewest passings from book to book, and the ways of these."""

from tallyring.errors import NotNext, TooFar
from tallyring.kinds import is_pair_list
from tallyring.passing import next_pairs, passed, passed_all
from tallyring.rules import FAR
from tallyring.tables import is_book


def needs(one, other):
    many = len(one)
    return [
        (i, j, other[i][j] - one[i][j])
        for i in range(many)
        for j in range(many)
        if other[i][j] > one[i][j]
    ]


def apart(one, other):
    return sum([more for i, j, more in needs(one, other)])


def nearer_pairs(book, other):
    """The rising list of passings from book that lead one nearer to other."""
    return [(i, j) for i, j in next_pairs(book) if other[i][j] > book[i][j]]


def least_way(one, other):
    far = apart(one, other)
    if far > FAR:
        raise TooFar(far)
    way = []
    book = one
    # Each passing leads one nearer, so the least at each is on a fewest way.
    for at in range(far):
        i, j = nearer_pairs(book, other)[0]
        way.append((i, j))
        book = passed(book, i, j)
    return way


def is_between(one, other, book):
    if not is_book(book) or len(book) != len(one):
        return False
    return apart(one, book) + apart(book, other) == apart(one, other)


def ways_on(ways, other):
    """How many ways lead to each book a passing nearer to other."""
    further = {}
    for book in ways:
        for i, j in nearer_pairs(book, other):
            following = passed(book, i, j)
            further[following] = further.get(following, 0) + ways[book]
    return further


def ways_many(one, other):
    ways = {one: 1}
    for at in range(apart(one, other)):
        ways = ways_on(ways, other)
    return ways[other]


def shows_way(one, other, thing):
    if not is_pair_list(thing) or len(thing) != apart(one, other):
        return False
    try:
        return passed_all(one, thing) == other
    except NotNext:
        return False
