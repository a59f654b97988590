"""Riders of steady speeds: what they have come to, at any far beat."""

from tallyring.fewest import apart
from tallyring.rides import book_of
from tallyring.tables import table_by


def gap_at(ride, speeds, i, j, beat):
    """By how many spots i's place is more than j's as a beat comes."""
    return ride[i] - ride[j] + (speeds[i] - speeds[j]) * beat


def tally_at(ride, speeds, i, j, beat):
    gap = gap_at(ride, speeds, i, j, beat)
    # A whole round is by only behind it: a faster i isn't there yet, a faster j hasn't yet left it.
    return (gap - 1 if speeds[i] > speeds[j] else gap) // len(ride)


def book_at(ride, speeds, beat):
    return table_by(len(ride), lambda i, j: tally_at(ride, speeds, i, j, beat))


def passings_till(ride, speeds, beat):
    # Of each pair but the faster one comes by, so no passing is taken back by another one.
    return apart(book_of(ride), book_at(ride, speeds, beat))


def common_measure(one, other):
    """The greatest number that measures two numbers, none below 0."""
    while other > 0:
        one, other = other, one % other
    return one


def lowest_terms(top, bottom):
    measure = common_measure(top, bottom)
    return (top // measure, bottom // measure)


def is_earlier(one, other):
    return one[0] * other[1] < other[0] * one[1]


def faster_pairs(speeds):
    """The rising list of all pairs (i, j), i faster than j."""
    many = len(speeds)
    return [(i, j) for i in range(many) for j in range(many) if speeds[i] > speeds[j]]


def meeting_from(ride, speeds, i, j, beat):
    """The first time, from a beat on, at which i is level with j, whom it's faster than."""
    many = len(ride)
    short_of_round = -gap_at(ride, speeds, i, j, beat) % many
    faster_by = speeds[i] - speeds[j]
    return lowest_terms(beat * faster_by + short_of_round, faster_by)


def level_next(ride, speeds, beat):
    first = None
    pairs = []
    for i, j in faster_pairs(speeds):
        time = meeting_from(ride, speeds, i, j, beat)
        if first is None or is_earlier(time, first):
            first = time
            pairs = []
        if time == first:
            pairs.append((i, j))
    return None if first is None else (first, pairs)


def beat_of(ride, speeds, many):
    if not faster_pairs(speeds):
        return None
    early = 0
    # By then any faster rider has gone more rounds further than there are passings asked for.
    late = len(ride) * (many + 2)
    while late - early > 1:
        amid = (early + late) // 2
        if passings_till(ride, speeds, amid) < many:
            early = amid
        else:
            late = amid
    return late


def same_again(ride, speeds):
    measure = len(ride)
    for speed in speeds:
        measure = common_measure(measure, abs(speed - speeds[0]))
    return len(ride) // measure
