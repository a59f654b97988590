"""Whether a thing shows what the dearest riders who agree are worth."""

from tallyring.agreeing import agreed_with, agrees_with_all, do_agree
from tallyring.kinds import is_number, is_number_list, is_pair_list
from tallyring.rides import behind


def is_rising_of_riders(many, thing):
    if not is_number_list(thing) or len(thing) == 0:
        return False
    return thing == [rider for rider in range(many) if rider in thing]


def shows_worth(one, other, prices, worth, riders):
    if not is_rising_of_riders(len(one), riders):
        return False
    if not all([agrees_with_all(one, other, rider, riders) for rider in riders]):
        return False
    return sum([prices[rider] for rider in riders]) == worth


def is_level_rows(one, other, thing):
    """Whether it's a list of a list of pairs for each rider, of just the riders that agree with it."""
    many = len(one)
    if not isinstance(thing, list) or len(thing) != many or not all([is_pair_list(row) for row in thing]):
        return False
    return all([[each for each, level in thing[rider]] == agreed_with(one, other, rider) for rider in range(many)])


def levels_rise(one, other, prices, order, found):
    """Whether each level is its rider's price, and that much more than any ahead in order who agrees, at least."""
    for at, each in enumerate(order):
        ahead = [found[nearer] for nearer in order[:at] if do_agree(one, other, nearer, each)]
        if found[each] - prices[each] < max([0] + ahead):
            return False
    return True


def shows_no_dearer(one, other, prices, worth, rider, row):
    """Whether a rider's levels show that no riders who agree, this one among them, are worth more."""
    found = dict(row)
    order = [each for each in behind(one, rider) if each in found]
    if not levels_rise(one, other, prices, order, found):
        return False
    return all([level + prices[rider] <= worth for level in [0] + list(found.values())])


def shows_dearest(one, other, prices, thing):
    if not isinstance(thing, tuple) or len(thing) != 3:
        return False
    worth, riders, rows = thing
    if not is_number(worth) or not shows_worth(one, other, prices, worth, riders):
        return False
    if not is_level_rows(one, other, rows):
        return False
    return all([shows_no_dearer(one, other, prices, worth, rider, row) for rider, row in enumerate(rows)])
