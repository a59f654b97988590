"""Hands: a rider held while others come by it, or sped by others."""

from tallyring.rides import book_of, places_of


def met_in_order(places, rider, sign):
    """The others in the order in which a sprint (sign 1) or a stop (sign -1) of a rider meets them."""
    many = len(places)
    others = [other for other in range(many) if other != rider]
    return sorted(others, key=lambda other: sign * (places[other] - places[rider]) % many)


def places_behind_hand(places, rider, many):
    if len(places) == 1:
        return places
    sign = 1 if many > 0 else -1
    # A whole round meets everybody once and leaves all standing as they stood.
    rounds, rest = divmod(abs(many), len(places) - 1)
    moved = list(places)
    moved[rider] += many
    for at, other in enumerate(met_in_order(places, rider, sign)):
        moved[other] -= sign * (rounds + 1 if at < rest else rounds)
    return moved


def handed(book, rider, many):
    return handed_all(book, [(rider, many)])


def handed_all(book, row):
    places = places_of(book)
    for rider, many in row:
        places = places_behind_hand(places, rider, many)
    return book_of(places)
