"""Tables of tallies, and which of them are books."""

from tallyring.kinds import is_number_tuple


def is_table(thing):
    if not isinstance(thing, tuple) or len(thing) == 0:
        return False
    many = len(thing)
    if not all([is_number_tuple(row) and len(row) == many for row in thing]):
        return False
    return is_turned_in_sign(thing)


def is_turned_in_sign(square):
    many = len(square)
    # A rider's own place is asked of too: only 0 is itself turned in sign.
    return all([square[j][i] == -square[i][j] for i in range(many) for j in range(i, many)])


def first_table(many):
    return tuple([(0,) * many for rider in range(many)])


def table_by(many, tally):
    """The table of so many riders, the tally of each i with each j above it told by a function."""
    rows = [[0] * many for rider in range(many)]
    for i in range(many):
        for j in range(i + 1, many):
            rows[i][j] = tally(i, j)
            rows[j][i] = -rows[i][j]
    return tuple([tuple(row) for row in rows])


def fits(table, low, middle, high):
    return table[low][high] - table[low][middle] - table[middle][high] in (0, 1)


def amiss(table):
    many = len(table)
    for low in range(many):
        for middle in range(low + 1, many):
            for high in range(middle + 1, many):
                if not fits(table, low, middle, high):
                    return (low, middle, high)
    return None


def is_book(thing):
    return is_table(thing) and amiss(thing) is None
