"""Books told otherwise: with a rider less or more, from the other end, in another order."""

from tallyring.errors import Alone
from tallyring.tables import table_by


def left_out(book, rider):
    if len(book) == 1:
        raise Alone()
    staying = [one for one in range(len(book)) if one != rider]
    return tuple([tuple([book[i][j] for j in staying]) for i in staying])


def tally_in_order(book, one, other):
    """The tally of one with other, as if one's number were the lesser."""
    return book[one][other] - 1 if one > other else book[one][other]


def put_in(book, rider):
    new = len(book)
    # Nobody stands between the rider and the new one, whose number alone makes another tally.
    return table_by(new + 1, lambda i, j: tally_in_order(book, i, rider) if j == new else book[i][j])


def mirrored(book):
    last = len(book) - 1
    return table_by(len(book), lambda a, b: book[last - b][last - a])


def numbered(book, order):
    return table_by(len(book), lambda a, b: tally_in_order(book, order[a], order[b]))
