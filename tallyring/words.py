"""Words of witnesses: the books that keep them, and rings of ends that no book keeps."""

from tallyring.errors import NoBook
from tallyring.kinds import is_number
from tallyring.rides import book_of


def is_rider(many, thing):
    return is_number(thing) and 0 <= thing < many


def is_limit(thing):
    return thing is None or is_number(thing)


def is_word(many, thing):
    if not isinstance(thing, tuple) or len(thing) != 4:
        return False
    i, j, low, high = thing
    if not is_rider(many, i) or not is_rider(many, j) or i == j:
        return False
    if not is_limit(low) or not is_limit(high):
        return False
    return low is None or high is None or low <= high


def is_kept(book, word):
    i, j, low, high = word
    if low is not None and book[i][j] < low:
        return False
    return high is None or book[i][j] <= high


def keeps(book, words):
    return all([is_kept(book, word) for word in words])


def has_end(word, end):
    return word[2 if end == "low" else 3] is not None


def told_by_end(word, end):
    """The triple (a, b, number): a's place less b's, in rounds, is below the number."""
    i, j, low, high = word
    # A tally is rounded down where the lesser number is asked of, up where the greater is.
    if end == "high":
        return (i, j, high + 1 if i < j else high)
    return (j, i, -low if i < j else 1 - low)


def all_ends(words):
    return [(at, end) for at, word in enumerate(words) for end in ("low", "high") if has_end(word, end)]


def put_lower(places, lowered_by, words, ends):
    """Puts riders as low as each end asks, and tells the last one put lower, None where all ends are kept.

    Places are counted in spots, as many to a round as riders: below a number of rounds is a spot less, at least.
    """
    many = len(places)
    last = None
    for at, end in ends:
        a, b, number = told_by_end(words[at], end)
        highest = places[b] + many * number - 1
        if places[a] > highest:
            places[a] = highest
            lowered_by[a] = (at, end)
            last = a
    return last


def ring_from(words, lowered_by, rider):
    """The ring of ends to which one comes from a rider by the ends that put each one lower."""
    row = []
    seen = []
    while rider not in seen:
        seen.append(rider)
        row.append(lowered_by[rider])
        at, end = lowered_by[rider]
        rider = told_by_end(words[at], end)[1]
    return row[seen.index(rider):]


def parted(places):
    """The ride in which each is in its own round, who stand at one spot of it parted by their numbers."""
    many = len(places)
    order = sorted(range(many), key=lambda rider: (places[rider] % many, rider))
    return tuple([many * (places[rider] // many) + order.index(rider) for rider in range(many)])


def judged(many, words):
    places = [0] * many
    lowered_by = {}
    ends = all_ends(words)
    last = None
    # Ends in a row without a ring are fewer than riders: who is put lower once more is so by a ring.
    for attempt in range(many):
        last = put_lower(places, lowered_by, words, ends)
        if last is None:
            return ("book", book_of(parted(places)))
    return ("ring", ring_from(words, lowered_by, last))


def lesser(one, other):
    """The lesser of two numbers, None being above all."""
    if one is None or other is None:
        return other if one is None else one
    return min(one, other)


def together(one, other):
    return None if one is None or other is None else one + other


def told_by_all(many, words):
    """Rows of the least numbers below which each rider's place less each one's is by all words, None where none is."""
    below = [[None] * many for rider in range(many)]
    for at, end in all_ends(words):
        a, b, number = told_by_end(words[at], end)
        below[a][b] = lesser(below[a][b], number)
    for middle in range(many):
        for a in range(many):
            for b in range(many):
                below[a][b] = lesser(below[a][b], together(below[a][middle], below[middle][b]))
    return below


def spans(many, words):
    if judged(many, words)[0] == "ring":
        raise NoBook()
    below = told_by_all(many, words)
    told = []
    for i in range(many):
        for j in range(i + 1, many):
            low = None if below[j][i] is None else -below[j][i]
            told.append((i, j, low, together(below[i][j], -1)))
    return told


def first_wrong(many, words):
    for number in range(len(words)):
        if judged(many, words[:number + 1])[0] == "ring":
            return number
    return None
