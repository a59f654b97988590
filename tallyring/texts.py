"""Texts of books and of words."""

from tallyring.errors import BadRow
from tallyring.tables import amiss, first_table, table_by
from tallyring.words import is_word

FIGURES = "0123456789"
NO_END = "*"


def is_plain(part):
    """Whether it's a number in plain figures."""
    figures = part.removeprefix("-")
    if figures == "" or not all([figure in FIGURES for figure in figures]):
        return False
    return figures[0] != "0" or part == "0"


def row_text(book, rider):
    return " ".join([f"{rider}:"] + [str(tally) for tally in book[rider][rider + 1:]])


def book_text(book):
    # One rider alone, the last one too, has a row yet.
    return "\n".join([row_text(book, rider) for rider in range(max(1, len(book) - 1))])


def tallies_in(row, rider, many):
    """The so many tallies in a rider's row; refused where it isn't so written."""
    first, *parts = row.split(" ")
    if first != f"{rider}:" or len(parts) != many or not all([is_plain(part) for part in parts]):
        raise BadRow(rider)
    return [int(part) for part in parts]


def book_in(text):
    alone = first_table(1)
    if text == book_text(alone):
        return alone
    rows = text.split("\n")
    many = len(rows)
    tallies = [tallies_in(row, rider, many - rider) for rider, row in enumerate(rows)]
    table = table_by(many + 1, lambda i, j: tallies[i][j - i - 1])
    three = amiss(table)
    if three is not None:
        raise BadRow(three[0])
    return table


def end_text(end):
    return NO_END if end is None else str(end)


def word_text(word):
    i, j, low, high = word
    return f"{i} by {j} {end_text(low)} {end_text(high)}"


def end_in(part):
    return None if part == NO_END else int(part)


def word_in(many, text):
    parts = text.split(" ")
    if len(parts) != 5 or parts[1] != "by":
        raise BadRow(0)
    del parts[1]
    if not all([part == NO_END or is_plain(part) for part in parts]):
        raise BadRow(0)
    # A rider without a number is no rider, so only what stands for an end may be open.
    word = tuple([end_in(part) for part in parts])
    if not is_word(many, word):
        raise BadRow(0)
    return word
