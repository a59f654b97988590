"""Whether a thing shows that a table is a ride's, or that it's none's."""

from tallyring.kinds import is_number_tuple
from tallyring.rides import book_of, is_ride
from tallyring.tables import fits


def shows_ride(table, thing):
    return is_ride(thing) and book_of(thing) == table


def shows_three(table, thing):
    if not is_number_tuple(thing) or len(thing) != 3:
        return False
    low, middle, high = thing
    if not 0 <= low < middle < high < len(table):
        return False
    return not fits(table, low, middle, high)
