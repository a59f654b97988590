"""The fewest stops, or sprints, from book to book, and rows of hands that lead there."""

from tallyring.errors import NotThese
from tallyring.fewest import needs
from tallyring.rides import places_of


def stops(one, other):
    return sorted({j for i, j, more in needs(one, other)})


def sprints(one, other):
    return sorted({i for i, j, more in needs(one, other)})


def wide_places(book, staying, shift):
    """Places on a wider ring, whose spots are told by the staying riders alone.

    Staying riders of whom any two agree have the same places by both books. All others stand between these, as by
    the book, so much further on as shift tells: by shifts of 0 and of as many as riders no two spots are one.
    """
    many = len(book)
    places = places_of(book)
    wide = []
    for place in places:
        gap = sum([(place - places[stayer]) // many for stayer in staying])
        ahead = min([(place - places[stayer]) % many for stayer in staying])
        wide.append(2 * many * gap + (ahead + shift if ahead > 0 else 0))
    return wide


def met_on_the_way(places, rider, end, around):
    """By how many others a rider comes (below 0: how many come by it) from its place to an end."""
    others = [places[other] for other in range(len(places)) if other != rider]
    return sum([(end - place) // around - (places[rider] - place) // around for place in others])


def hands_in_order(one, other, order, shifts):
    """Hands of the riders in order, all others staying; the shifts are those of the wide places by one and other."""
    many = len(one)
    staying = [rider for rider in range(many) if rider not in order]
    places = wide_places(one, staying, shifts[0])
    ends = wide_places(other, staying, shifts[1])
    row = []
    for rider in order:
        row.append((rider, met_on_the_way(places, rider, ends[rider], 2 * many * len(staying))))
        places[rider] = ends[rider]
    return row


def stop_row(one, other, order):
    if sorted(order) != stops(one, other):
        raise NotThese()
    # Ends stand behind starts between any two who stay, so each rider goes back, if only there.
    return hands_in_order(one, other, order, (len(one), 0))


def sprint_row(one, other, order):
    if sorted(order) != sprints(one, other):
        raise NotThese()
    return hands_in_order(one, other, order, (0, len(one)))
