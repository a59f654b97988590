"""Riders who agree in two books, and the fewest and cheapest hands."""

from tallyring.errors import NotAgreed
from tallyring.rides import behind
from tallyring.stops import hands_in_order


def do_agree(one, other, i, j):
    return one[i][j] == other[i][j]


def agrees_with_all(one, other, rider, riders):
    return all([do_agree(one, other, rider, each) for each in riders])


def agreed_with(one, other, rider):
    """The rising list of the others that agree with a rider."""
    return [each for each in range(len(one)) if each != rider and do_agree(one, other, rider, each)]


def level_by_rider(one, other, prices, rider, riders):
    """Levels behind a rider, of rows among some riders that agree with it."""
    found = {}
    for each in behind(one, rider):
        if each in riders:
            # Who agree with the rider stand behind it in both books alike just where they agree: so a row's last one
            # is all that the next one must agree with.
            ahead = [found[nearer] for nearer in found if do_agree(one, other, nearer, each)]
            found[each] = prices[each] + max(ahead, default=0)
    return found


def levels(one, other, prices):
    told = []
    for rider in range(len(one)):
        found = level_by_rider(one, other, prices, rider, agreed_with(one, other, rider))
        told.append(sorted(found.items()))
    return told


def worth_with(one, other, prices, chosen):
    """The greatest sum of prices of riders of whom any two agree, the chosen ones, who agree, among them."""
    first = chosen[0]
    riders = [each for each in agreed_with(one, other, first) if agrees_with_all(one, other, each, chosen)]
    found = level_by_rider(one, other, prices, first, riders)
    return prices[first] + max(list(found.values()), default=0)


def dearest(one, other, prices):
    many = len(one)
    worth = max([worth_with(one, other, prices, [rider]) for rider in range(many)])
    chosen = []
    for rider in range(many):
        # A list is less than any that goes on behind it, so one that is worth it all ends there.
        if chosen and sum([prices[each] for each in chosen]) == worth:
            break
        if agrees_with_all(one, other, rider, chosen) and worth_with(one, other, prices, chosen + [rider]) == worth:
            chosen.append(rider)
    return (worth, chosen)


def agreeing(one, other):
    worth, riders = dearest(one, other, [1] * len(one))
    return riders


def hand_row(one, other, staying):
    for i in staying:
        for j in staying:
            if i < j and not do_agree(one, other, i, j):
                raise NotAgreed(i, j)
    order = [rider for rider in range(len(one)) if rider not in staying]
    row = hands_in_order(one, other, order, (0, len(one)))
    return [(rider, many) for rider, many in row if many != 0]
