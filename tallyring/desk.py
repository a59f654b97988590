"""A desk that answers rows of a text, of a Ring and a Court."""

from tallyring.agreeing import agreeing
from tallyring.court import Court
from tallyring.errors import BadRow, NoBook, NotNext, NoWord
from tallyring.fewest import apart
from tallyring.passing import next_pairs
from tallyring.ring import Ring
from tallyring.stops import stops
from tallyring.tables import first_table
from tallyring.texts import end_text, is_plain, word_in
from tallyring.words import is_rider, keeps

MOST_RIDERS = 12
MOST_FIGURES = 6


def joined(parts, by):
    return by.join(parts) if len(parts) > 0 else "-"


def in_a_row(numbers):
    return joined([str(number) for number in numbers], " ")


def yes_or_no(whether):
    return "yes" if whether else "no"


def do_pass(ring, court, one, other):
    ring.come_by(one, other)
    return "done"


def do_hand(ring, court, rider, many):
    ring.hand(rider, many)
    return "done"


def do_undo(ring, court):
    return yes_or_no(ring.undo())


def do_hear(ring, court, word):
    return str(court.hear(word))


def do_strike(ring, court, number):
    court.strike(number)
    return "done"


def ask_tally(ring, court, one, other):
    return str(ring.tally(one, other))


def ask_ride(ring, court):
    return in_a_row(ring.ride())


def ask_next(ring, court):
    return joined([in_a_row(pair) for pair in next_pairs(ring.book())], "; ")


def ask_apart(ring, court):
    return str(apart(first_table(len(ring)), ring.book()))


def ask_stops(ring, court):
    return in_a_row(stops(first_table(len(ring)), ring.book()))


def riders_who_agree(ring):
    return agreeing(first_table(len(ring)), ring.book())


def ask_hands(ring, court):
    return str(len(ring) - len(riders_who_agree(ring)))


def ask_agree(ring, court):
    return in_a_row(riders_who_agree(ring))


def ask_verdict(ring, court):
    told, shown = court.verdict()
    if told == "book":
        return "book"
    ends = joined([f"{number} {end}" for number, end in shown], "; ")
    return f"ring {ends}"


def ask_spans(ring, court):
    return joined([f"{i} {j} {end_text(low)} {end_text(high)}" for i, j, low, high in court.spans()], "; ")


def ask_kept(ring, court):
    return yes_or_no(keeps(ring.book(), court.bare_words()))


# What stands behind each row's first word, and what is done by it.
ROWS = {
    "pass": (("rider", "rider"), do_pass),
    "hand": (("rider", "number"), do_hand),
    "undo": ((), do_undo),
    "hear": (("word",), do_hear),
    "strike": (("count",), do_strike),
    "tally": (("rider", "rider"), ask_tally),
    "ride": ((), ask_ride),
    "next": ((), ask_next),
    "apart": ((), ask_apart),
    "stops": ((), ask_stops),
    "hands": ((), ask_hands),
    "agree": ((), ask_agree),
    "verdict": ((), ask_verdict),
    "spans": ((), ask_spans),
    "kept": ((), ask_kept),
}


def is_short(part):
    return len(part.removeprefix("-")) <= MOST_FIGURES


def is_so_written(many, kind, part):
    """Whether a part of a row is a rider, a count (from 0) or any number."""
    if not is_short(part) or not is_plain(part):
        return False
    if kind == "rider":
        return is_rider(many, int(part))
    return kind == "number" or int(part) >= 0


def word_arguments(many, parts):
    if not all([is_short(part) for part in parts]):
        return None
    try:
        return [word_in(many, " ".join(parts))]
    except BadRow:
        return None


def arguments_in(many, row):
    """What a row hands to what is done by it, a list; None where the row isn't so written."""
    name, *parts = row.split(" ")
    if name not in ROWS:
        return None
    if name == "hear":
        return word_arguments(many, parts)
    kinds = ROWS[name][0]
    if len(parts) != len(kinds):
        return None
    if not all([is_so_written(many, kind, part) for kind, part in zip(kinds, parts)]):
        return None
    # Plain figures of one number are one text.
    if kinds == ("rider", "rider") and parts[0] == parts[1]:
        return None
    return [int(part) for part in parts]


def riders_in(row):
    """How many riders a first row tells of; None where it isn't so written."""
    name, *parts = row.split(" ")
    if name != "riders" or len(parts) != 1 or not is_so_written(0, "count", parts[0]):
        return None
    many = int(parts[0])
    return many if 1 <= many <= MOST_RIDERS else None


def read(text):
    """How many riders there are, and the pairs (name, arguments) of all rows behind that one."""
    rows = text.split("\n")
    places = [at for at, row in enumerate(rows) if row != ""]
    if len(places) == 0:
        raise BadRow(len(rows))
    many = riders_in(rows[places[0]])
    if many is None:
        raise BadRow(places[0])
    found = []
    for at in places[1:]:
        arguments = arguments_in(many, rows[at])
        if arguments is None:
            raise BadRow(at)
        found.append((rows[at].split(" ")[0], arguments))
    return (many, found)


def answer(ring, court, name, arguments):
    action = ROWS[name][1]
    try:
        return action(ring, court, *arguments)
    except NotNext:
        return "refused NotNext"
    except NoWord:
        return "refused NoWord"
    except NoBook:
        return "refused NoBook"


def answers(text):
    many, found = read(text)
    ring = Ring(first_table(many))
    court = Court(many)
    return [answer(ring, court, name, arguments) for name, arguments in found]
