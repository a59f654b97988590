"""Turns of a way, by which any fewest way is led over into any other."""

from tallyring.errors import NoTurn
from tallyring.kinds import is_number_list


def have_no_rider_in_common(one, other):
    return one[0] not in other and one[1] not in other


def is_chain(first, middle, last):
    """Whether three passings are (i, j), (i, l), (j, l)."""
    return first[1] == last[0] and middle == (first[0], last[1])


def is_exchange(part):
    return len(part) == 2 and have_no_rider_in_common(part[0], part[1])


def is_three(part):
    if len(part) != 3:
        return False
    first, middle, last = part
    return is_chain(first, middle, last) or is_chain(last, middle, first)


def turn_length(way, at):
    """How many passings are turned about at a place, 0 where there's no turn."""
    # A place below 0 would be read from the way's end.
    if at < 0:
        return 0
    if is_exchange(way[at:at + 2]):
        return 2
    if is_three(way[at:at + 3]):
        return 3
    return 0


def turned(way, at):
    length = turn_length(way, at)
    if length == 0:
        raise NoTurn(at)
    row = list(way)
    # Two that are exchanged are turned about, too.
    return row[:at] + row[at:at + length][::-1] + row[at + length:]


def turned_all(way, places):
    row = list(way)
    for at in places:
        row = turned(row, at)
    return row


def may_turn(way):
    return [at for at in range(len(way)) if turn_length(way, at) > 0]


def later(places, by):
    return [at + by for at in places]


def middle_of(one, other):
    """The passing amid the three that begin with one and end with other, or the other way about."""
    if one[1] == other[0]:
        return (one[0], other[1])
    return (other[0], one[1])


def turns_to_front(way, pair):
    """Places to turn a way at till it begins with a passing, which may come first on a fewest way."""
    if way[0] == pair:
        return []
    if have_no_rider_in_common(way[0], pair):
        return later(turns_to_front(way[1:], pair), 1) + [0]
    # Both may come first, so some way begins with the three of both: these are brought there.
    places = later(turns_to_front(way[1:], middle_of(way[0], pair)), 1)
    rest = turned_all(way, places)[2:]
    return places + later(turns_to_front(rest, pair), 2) + [0]


def led_over(one, way, other):
    # The passings alone tell what may come first, so the book needn't be looked at.
    row = list(way)
    places = []
    for at, pair in enumerate(other):
        following = later(turns_to_front(row[at:], pair), at)
        row = turned_all(row, following)
        places.extend(following)
    return places


def shows_led(way, other, thing):
    if not is_number_list(thing):
        return False
    try:
        return turned_all(way, thing) == list(other)
    except NoTurn:
        return False
