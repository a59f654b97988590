import itertools
import random
import re
import unittest

from tallyring.errors import BadRow
from tallyring.tables import first_table
from tallyring.texts import book_in, book_text, word_in, word_text
from tests.helpers import (
    FAR_NUMBER, Asking, first_ride, model_book, model_is_word, random_ride, random_words, sample_rides, signs_otherwise,
    table_from, unfit_triples,
)

NUMBER = "(?:0|-?[1-9][0-9]*)"


def model_book_in(text):
    """("book", book) or ("bad", row), by the document's words."""
    if text == "0:":
        return ("book", ((0,),))
    rows = text.split("\n")
    for at, row in enumerate(rows):
        if not re.fullmatch(f"{at}:(?: {NUMBER}){{{len(rows) - at}}}", row):
            return ("bad", at)
    tallies = {}
    for at, row in enumerate(rows):
        for further, part in enumerate(row.split(" ")[1:], 1):
            tallies[at, at + further] = int(part)
    table = table_from(len(rows) + 1, tallies)
    return ("bad", unfit_triples(table)[0][0]) if unfit_triples(table) else ("book", table)


def model_word_in(many, text):
    """The word, None where it isn't so written."""
    end = f"(?:{NUMBER}|[*])"
    if not re.fullmatch(f"{NUMBER} by {NUMBER} {end} {end}", text):
        return None
    i, by, j, low, high = text.split(" ")
    word = (int(i), int(j), None if low == "*" else int(low), None if high == "*" else int(high))
    return word if model_is_word(many, word) else None


class BookText(unittest.TestCase, Asking):
    def test_written_out(self):
        self.assertTold("0:", book_text(((0,),)))
        self.assertTold("0: 0", book_text(first_table(2)))
        self.assertTold("0: -5", book_text(((0, -5), (5, 0))))
        self.assertTold("0: 1 3\n1: 1", book_text(table_from(3, {(0, 1): 1, (0, 2): 3, (1, 2): 1})))
        self.assertTold("0: 0 0 0\n1: 0 0\n2: 0", book_text(first_table(4)))
        self.assertTold(f"0: {-FAR_NUMBER}", book_text(((0, -FAR_NUMBER), (FAR_NUMBER, 0))))

    def test_rows_of_each_rider_but_the_last(self):
        for ride in sample_rides():
            book = model_book(ride)
            rows = book_text(book).split("\n")
            if len(ride) > 1:
                expected = [f"{i}: " + " ".join(map(str, book[i][i + 1:])) for i in range(len(ride) - 1)]
                self.assertTold(expected, rows)

    def test_asking(self):
        for ride in sample_rides():
            self.check_asking(book_text, book=model_book(ride))


class BookIn(unittest.TestCase, Asking):
    def check_read(self, text):
        told, shown = model_book_in(text)
        if told == "book":
            self.assertTold(shown, book_in(text))
        else:
            with self.assertRaises(BadRow, msg=repr(text)) as caught:
                book_in(text)
            self.assertEqual(vars(caught.exception), {"row": shown}, repr(text))
        return told

    def check_bad(self, text, row):
        self.assertEqual(model_book_in(text), ("bad", row), repr(text))
        self.check_read(text)

    def test_told_texts_are_read_again(self):
        for ride in sample_rides():
            self.assertTold(model_book(ride), book_in(book_text(model_book(ride))))

    def test_written_out(self):
        self.assertTold(((0,),), book_in("0:"))
        self.assertTold(((0, 7), (-7, 0)), book_in("0: 7"))
        self.assertTold(table_from(3, {(0, 1): 1, (0, 2): 3, (1, 2): 1}), book_in("0: 1 3\n1: 1"))

    def test_blanks(self):
        for text, row in (
            ("0:  1 3\n1: 1", 0), ("0: 1  3\n1: 1", 0), (" 0: 1 3\n1: 1", 0), ("0: 1 3 \n1: 1", 0), ("0: ", 0),
            ("0: 1 3\n1:  1", 1), ("0: 1 3\n 1: 1", 1), ("0: 1 3\n1: 1 ", 1), ("0:1 3\n1: 1", 0), ("0 : 1 3\n1: 1", 0),
            (" ", 0), (" 0:", 0), ("0: 5 ", 0), ("0:\t5", 0), ("0: 5\r", 0),
        ):
            self.check_bad(text, row)

    def test_figures(self):
        for part in ("00", "01", "007", "-0", "-01", "+1", "+0", "--1", "-", "1-", "1.0", "1,0", "a", "*", "1_0", "0x1",
                     "\u0661", "\u00b2", "1e3", ":", "1:"):
            self.check_bad(f"0: {part}", 0)
            self.check_bad(f"0: {part} 0\n1: 0", 0)
            self.check_bad(f"0: 0 {part}\n1: 0", 0)
            self.check_bad(f"0: 0 0\n1: {part}", 1)

    def test_too_few_and_too_many_numbers(self):
        for text, row in (
            ("0: 1 3", 0), ("0: 1\n1: 1", 0), ("0: 1 3 3\n1: 1", 0), ("0: 1 3\n1:", 1), ("0: 1 3\n1: 1 1", 1),
            ("0:\n1: 1", 0), ("0:\n1:", 0), ("0: 0 0 0\n1: 0 0\n2:", 2), ("0: 0 0 0\n1: 0\n2: 0", 1),
            ("0: 0 0 0\n1: 0 0\n2: 0 0", 2),
        ):
            self.check_bad(text, row)

    def test_empty_rows(self):
        for text, row in (
            ("", 0), ("\n", 0), ("\n\n", 0), ("0:\n", 0), ("0: 5\n", 0), ("\n0: 5", 0), ("0: 1 3\n", 1),
            ("0: 1 3\n\n1: 1", 0), ("0: 0 0 0\n1: 0 0\n", 2), ("0: 0 0 0\n\n2: 0", 1), ("0: 1 3\n1: 1\n", 0),
        ):
            self.check_bad(text, row)

    def test_rows_numbered_wrongly(self):
        for text, row in (
            ("1:", 0), ("1: 5", 0), ("-0: 5", 0), ("00: 5", 0), ("0: 1 3\n2: 1", 1), ("0: 1 3\n0: 1", 1),
            ("1: 1 3\n0: 1", 0), ("0: 1 3\n01: 1", 1), ("0: 1 3\n+1: 1", 1), (": 5", 0), ("0 5", 0), ("0; 5", 0),
            ("0:: 5", 0),
        ):
            self.check_bad(text, row)

    def test_three_that_do_not_fit(self):
        self.check_bad("0: 1 0\n1: 1", 0)
        self.check_bad("0: 0 0\n1: 1", 0)
        self.check_bad("0: 0 0 0\n1: 0 2\n2: 0", 0)
        fitting_but_last = table_from(4, {(1, 2): -1, (1, 3): 0, (2, 3): -1})
        self.assertEqual(unfit_triples(fitting_but_last)[0], (1, 2, 3))
        self.check_bad("0: 0 0 0\n1: -1 0\n2: -1", 1)
        # A row that isn't so written goes ahead of riders ahead of it that don't fit.
        self.check_bad("0: 9 0 0\n1: 0 0\n2: 00", 2)

    def test_least_three_that_do_not_fit(self):
        source = random.Random(131)
        found = set()
        for _ in range(400):
            many = source.choice((3, 4, 5, 6))
            rows = [[source.choice((0, 0, 0, 0, 0, -1)) for _ in range(many - 1 - i)] for i in range(many - 1)]
            text = "\n".join(f"{i}: " + " ".join(map(str, row)) for i, row in enumerate(rows))
            found.add(model_book_in(text)[1] if self.check_read(text) == "bad" else None)
        self.assertTrue({None, 0, 1, 2} <= found)

    def test_one_sign_otherwise(self):
        source = random.Random(137)
        told = []
        for many, rounds in ((1, 0), (2, 0), (2, 20), (3, 0), (3, 2), (4, 0), (4, 9), (3, FAR_NUMBER)):
            for text in signs_otherwise(book_text(model_book(random_ride(source, many, rounds)))):
                told.append(self.check_read(text))
        self.assertGreater(told.count("book"), 100)
        self.assertGreater(told.count("bad"), 1000)

    def test_one_sign_otherwise_of_12(self):
        text = book_text(model_book(first_ride(12)))
        for other in itertools.islice(signs_otherwise(text, " \n-01:"), 0, None, 3):
            self.check_read(other)

    def test_any_texts_of_few_signs(self):
        for length in range(6):
            for signs in itertools.product(" 0-:\n", repeat=length):
                self.check_read("".join(signs))

    def test_forty_rows(self):
        text = book_text(first_table(41))
        self.assertEqual(len(text.split("\n")), 40)
        self.assertTold(first_table(41), book_in(text))
        self.check_bad("\n" * 39, 0)
        self.check_bad(text + " 0", 39)

    def test_asking(self):
        for ride in sample_rides():
            self.check_asking(book_in, text=book_text(model_book(ride)))
        with self.assertRaises(BadRow):
            book_in(text="")


SAMPLE_WORDS = [
    (0, 1, 0, 0), (1, 0, -3, 4), (0, 2, None, 5), (2, 1, 5, None), (2, 0, None, None), (0, 1, -7, -7),
    (0, 1, -FAR_NUMBER, FAR_NUMBER), (0, 1, 10 ** 60, None), (11, 10, -10 ** 90, 10 ** 90),
]


class WordText(unittest.TestCase, Asking):
    def test_written_out(self):
        self.assertTold("0 by 1 0 0", word_text((0, 1, 0, 0)))
        self.assertTold("1 by 0 -3 4", word_text((1, 0, -3, 4)))
        self.assertTold("0 by 2 * 5", word_text((0, 2, None, 5)))
        self.assertTold("2 by 1 5 *", word_text((2, 1, 5, None)))
        self.assertTold("11 by 10 * *", word_text((11, 10, None, None)))
        self.assertTold(f"0 by 1 {-FAR_NUMBER} {FAR_NUMBER}", word_text((0, 1, -FAR_NUMBER, FAR_NUMBER)))

    def test_asking(self):
        for word in SAMPLE_WORDS:
            self.check_asking(word_text, word=word)


class WordIn(unittest.TestCase, Asking):
    def check_read(self, many, text):
        expected = model_word_in(many, text)
        if expected is not None:
            self.assertTold(expected, word_in(many, text))
        else:
            with self.assertRaises(BadRow, msg=repr(text)) as caught:
                word_in(many, text)
            self.assertEqual(vars(caught.exception), {"row": 0})
        return expected is not None

    def check_bad(self, many, text):
        self.assertIs(self.check_read(many, text), False, repr(text))

    def test_told_texts_are_read_again(self):
        for word in SAMPLE_WORDS + random_words(random.Random(139), 12, 60, FAR_NUMBER):
            self.assertTold(word, word_in(12, word_text(word)))

    def test_riders_that_are_not_there_or_alike(self):
        for many in range(1, 6):
            for i, j in itertools.product(range(-2, 7), repeat=2):
                inside = i in range(many) and j in range(many) and i != j
                self.assertIs(self.check_read(many, f"{i} by {j} 0 *"), inside)
        self.check_bad(3, "* by 1 0 0")
        self.check_bad(3, "0 by * 0 0")
        self.check_bad(13, f"{FAR_NUMBER} by 0 0 0")

    def test_low_above_high(self):
        for low, high in itertools.product(range(-3, 4), repeat=2):
            self.assertIs(self.check_read(2, f"1 by 0 {low} {high}"), low <= high)
        self.check_bad(2, f"0 by 1 {FAR_NUMBER} {FAR_NUMBER - 1}")

    def test_open_ends(self):
        self.assertTold((0, 1, None, -5), word_in(2, "0 by 1 * -5"))
        self.assertTold((0, 1, 5, None), word_in(2, "0 by 1 5 *"))
        self.assertTold((0, 1, None, None), word_in(2, "0 by 1 * *"))
        for text in ("0 by 1 ** 5", "0 by 1 -* 5", "0 by 1 *5", "0 by 1 *  5", "0 by 1 None 5", "0 by 1 x 5"):
            self.check_bad(2, text)

    def test_not_so_written(self):
        for text in (
            "", " ", "0", "0 by 1", "0 by 1 0", "0 by 1 0 0 0", "0 1 0 0", "0  by 1 0 0", " 0 by 1 0 0", "0 by 1 0 0 ",
            "0 by 1 0  0", "00 by 1 0 0", "0 by 01 0 0", "-0 by 1 0 0", "0 by 1 -0 0", "0 by 1 00 0", "0 by 1 0 +1",
            "0 by 1 0 01", "0 By 1 0 0", "0 b y 1 0 0", "0 of 1 0 0", "by 0 1 0 0", "0 by 1 0 0\n", "\n0 by 1 0 0",
            "0 by 1\n0 0", "0 by 1 0 0\n0 by 1 0 0", "hear 0 by 1 0 0", "0 by 1 - 0", "0 by 1 --1 0", "0 by 1 1- 1",
            "0 by 1 0 \u0661", "\u0660 by 1 0 0", "0 by 1 0 1.0", "0 by 1 0\t0",
        ):
            self.check_bad(3, text)

    def test_one_sign_otherwise(self):
        read = 0
        for word in SAMPLE_WORDS:
            for text in signs_otherwise(word_text(word)):
                for many in (2, 3, 12):
                    read += self.check_read(many, text)
        self.assertGreater(read, 300)

    def test_asking(self):
        for word in SAMPLE_WORDS:
            self.check_asking(word_in, many=12, text=word_text(word))
        with self.assertRaises(BadRow):
            word_in(text="0 by 0 0 0", many=1)


if __name__ == "__main__":
    unittest.main()
