import random
import re
import unittest

from tallyring.agreeing import agreeing
from tallyring.court import Court
from tallyring.desk import answers
from tallyring.errors import BadRow, NoBook, NotNext, NoWord
from tallyring.fewest import apart
from tallyring.passing import next_pairs
from tallyring.ring import Ring
from tallyring.stops import stops
from tallyring.tables import first_table
from tallyring.texts import word_text
from tallyring.words import keeps
from tests.helpers import Asking, random_words, signs_otherwise

NUMBER = "(0|-?[1-9][0-9]{0,5})"
COUNT = "(0|[1-9][0-9]{0,5})"
END = r"(0|-?[1-9][0-9]{0,5}|\*)"
BARE = ("undo", "ride", "next", "apart", "stops", "hands", "agree", "verdict", "spans", "kept")


def model_row(many, row):
    """Whether a row behind the first is so written, by the document's words."""
    if row in BARE or re.fullmatch(f"strike {COUNT}", row):
        return True
    if match := re.fullmatch(f"hand {COUNT} {NUMBER}", row):
        return int(match[1]) < many
    if match := re.fullmatch(f"(?:pass|tally) {COUNT} {COUNT}", row):
        return int(match[1]) < many and int(match[2]) < many and match[1] != match[2]
    if match := re.fullmatch(f"hear {COUNT} by {COUNT} {END} {END}", row):
        if not (int(match[1]) < many and int(match[2]) < many and match[1] != match[2]):
            return False
        return "*" in (match[3], match[4]) or int(match[3]) <= int(match[4])
    return False


def model_bad_row(text):
    """The number of the first row that isn't so written, None where all are."""
    rows = text.split("\n")
    many = None
    for at, row in enumerate(rows):
        if row == "":
            continue
        if many is None:
            if not re.fullmatch("riders ([1-9]|1[0-2])", row):
                return at
            many = int(row.split(" ")[1])
        elif not model_row(many, row):
            return at
    return len(rows) if many is None else None


def spaced(numbers):
    return " ".join(str(number) for number in numbers)


def end_of(number):
    return "*" if number is None else str(number)


class Desk:
    """The answers by the program's other parts, row by row."""

    def __init__(self, many):
        self.first = first_table(many)
        self.ring = Ring(self.first)
        self.court = Court(many)

    def answer(self, row):
        try:
            return self.told(*row.split(" ")) or "-"
        except (NotNext, NoWord, NoBook) as refusal:
            return f"refused {type(refusal).__name__}"

    def told(self, name, *parts):
        book = self.ring.book()
        if name == "hear":
            i, by, j, low, high = parts
            ends = [None if end == "*" else int(end) for end in (low, high)]
            return str(self.court.hear((int(i), int(j), *ends)))
        numbers = [int(part) for part in parts]
        if name in ("pass", "hand", "strike"):
            {"pass": self.ring.come_by, "hand": self.ring.hand, "strike": self.court.strike}[name](*numbers)
            return "done"
        if name == "undo":
            return "yes" if self.ring.undo() else "no"
        if name == "tally":
            return str(book[numbers[0]][numbers[1]])
        if name == "verdict":
            told, shown = self.court.verdict()
            return "book" if told == "book" else "ring " + "; ".join(f"{number} {end}" for number, end in shown)
        return {
            "ride": lambda: spaced(self.ring.ride()),
            "next": lambda: "; ".join(spaced(pair) for pair in next_pairs(book)),
            "apart": lambda: str(apart(self.first, book)),
            "stops": lambda: spaced(stops(self.first, book)),
            "hands": lambda: str(len(book) - len(agreeing(self.first, book))),
            "agree": lambda: spaced(agreeing(self.first, book)),
            "spans": lambda: "; ".join(spaced(map(end_of, span)) for span in self.court.spans()),
            "kept": lambda: "yes" if keeps(book, [word for number, word in self.court.words()]) else "no",
        }[name]()


def model_answers(text):
    rows = [row for row in text.split("\n") if row != ""]
    desk = Desk(int(rows[0].split(" ")[1]))
    return [desk.answer(row) for row in rows[1:]]


def random_row(source, many):
    rider, other = source.randrange(many), source.randrange(many)
    choices = [f"hand {rider} {source.randint(-9, 9)}", f"strike {source.randrange(6)}", "undo"]
    choices += source.sample(BARE, 2)
    if rider != other:
        choices += [f"pass {rider} {other}"] * 3 + [f"tally {rider} {other}"]
        choices += ["hear " + word_text(random_words(source, many, 1, 4)[0])] * 2
    return source.choice(choices)


def random_texts():
    source = random.Random(149)
    for many in [*range(1, 13), 2, 2, 3, 3, 4]:
        for length in (0, 1, 12, 39, 60):
            rows = [f"riders {many}"] + [random_row(source, many) for _ in range(length)]
            for _ in range(source.randrange(3)):
                rows.insert(source.randrange(len(rows) + 1), "")
            yield "\n".join(rows)


class DeskCase(unittest.TestCase, Asking):
    def check_bad(self, text, row):
        with self.assertRaises(BadRow, msg=repr(text)) as caught:
            answers(text)
        self.assertEqual(vars(caught.exception), {"row": row}, repr(text))
        self.assertEqual(model_bad_row(text), row, repr(text))

    def check_text(self, text):
        bad = model_bad_row(text)
        if bad is not None:
            self.check_bad(text, bad)
        else:
            self.assertTold(model_answers(text), answers(text))
        return bad is None

    def check_answers(self, rows, expected):
        self.assertTold(expected, answers("\n".join(rows)))


class Answers(DeskCase):
    def test_riders_is_not_answered(self):
        for many in range(1, 13):
            self.check_answers([f"riders {many}"], [])

    def test_deeds(self):
        self.check_answers(
            ["riders 3", "pass 0 2", "pass 0 2", "hand 1 -4", "hand 1 0", "hand 2 5"] + ["undo"] * 5,
            ["done", "refused NotNext", "done", "done", "done", "yes", "yes", "yes", "yes", "no"],
        )
        self.check_answers(
            ["riders 2", "hear 0 by 1 3 *", "hear 1 by 0 * *", "strike 0", "strike 0", "strike 2", "hear 0 by 1 -5 5",
             "undo"],
            ["0", "1", "done", "refused NoWord", "refused NoWord", "2", "no"],
        )

    def test_tally(self):
        self.check_answers(
            ["riders 2", "tally 0 1", "hand 0 999999", "tally 0 1", "tally 1 0", "undo", "tally 1 0"],
            ["0", "done", "999999", "-999999", "yes", "0"],
        )

    def test_ride_and_next(self):
        self.check_answers(
            ["riders 3", "ride", "next", "pass 0 2", "ride", "next"],
            ["0 -1 -2", "0 2; 1 0; 2 1", "done", "0 -2 -4", "0 1; 1 2; 2 0"],
        )
        self.check_answers(["riders 1", "ride", "next"], ["0", "-"])
        self.check_answers(["riders 2", "next"], ["0 1; 1 0"])

    def test_apart_stops_hands_and_agree(self):
        self.check_answers(
            ["riders 4", "apart", "stops", "hands", "agree", "hand 1 5", "hand 3 -2", "apart", "stops", "hands",
             "agree"],
            ["0", "-", "0", "0 1 2 3", "done", "done", "7", "0 2 3", "2", "0 2"],
        )
        self.check_answers(
            ["riders 1", "hand 0 7", "apart", "stops", "hands", "agree", "undo"],
            ["done", "0", "-", "0", "0", "yes"],
        )

    def test_verdict_spans_and_kept(self):
        self.check_answers(
            ["riders 2", "verdict", "spans", "kept", "hear 0 by 1 2 *", "verdict", "spans", "kept", "hand 0 2", "kept"],
            ["book", "0 1 * *", "yes", "0", "book", "0 1 2 *", "no", "done", "yes"],
        )
        self.check_answers(["riders 1", "verdict", "spans", "kept"], ["book", "-", "yes"])
        told = answers("riders 2\nhear 0 by 1 9 9\nstrike 0\nhear 0 by 1 2 *\nhear 1 by 0 -1 *\nverdict\nspans\nkept")
        self.assertIn(told[4], ("ring 1 low; 2 low", "ring 2 low; 1 low"))
        self.assertTold(["refused NoBook", "no"], told[5:])
        self.check_answers(["riders 3", "hear 0 by 1 1 1", "hear 1 by 2 1 3", "spans"],
                           ["0", "1", "0 1 1 1; 0 2 2 5; 1 2 1 3"])
        self.check_answers(["riders 2", "hear 1 by 0 -4 -3", "spans", "kept"], ["0", "0 1 3 4", "no"])

    def test_struck_words_are_not_asked_of(self):
        self.check_answers(["riders 2", "hear 0 by 1 5 5", "kept", "strike 0", "kept", "spans"],
                           ["0", "no", "done", "yes", "0 1 * *"])

    def test_empty_rows_are_passed_over(self):
        self.assertTold(["0 -1"], answers("\n\nriders 2\n\n\nride\n\n"))
        self.assertTold([], answers("\nriders 2\n"))
        self.assertTold(["done", "yes"], answers("riders 2\n\npass 0 1\n\nundo"))

    def test_numbers_of_six_figures(self):
        self.check_answers(
            ["riders 2", "hand 0 -999999", "hear 0 by 1 -999999 999999", "strike 999999", "hand 0 100000"],
            ["done", "0", "refused NoWord", "done"],
        )

    def test_many_rows_beside_the_other_parts(self):
        found = set()
        for text in random_texts():
            self.assertTrue(self.check_text(text))
            found |= set(answers(text))
        for answer in ("done", "yes", "no", "-", "book", "refused NotNext", "refused NoWord", "refused NoBook"):
            self.assertIn(answer, found)
        self.assertTrue([answer for answer in found if answer.startswith("ring ")])

    def test_asking(self):
        for text in list(random_texts())[::4]:
            self.check_asking(answers, text=text)
        with self.assertRaises(BadRow):
            answers(text="")


class BadRows(DeskCase):
    def test_empty_rows_alone(self):
        for many in range(41):
            self.check_bad("\n" * many, many + 1)

    def test_no_riders_first(self):
        self.check_bad("ride", 0)
        self.check_bad("\n\nride\nriders 3", 2)
        self.check_bad("pass 0 1\nriders 2", 0)
        self.check_bad("x", 0)
        self.check_bad("\n \n", 1)

    def test_riders_wrongly_written(self):
        for row in (
            "riders 0", "riders 13", "riders -1", "riders", "riders ", "riders  3", " riders 3", "riders 3 ",
            "riders 3 4", "riders 03", "riders +3", "riders x", "riders *", "Riders 3", "rider 3", "riders3",
            "riders 1000000", "riders -0", "riders 3.0", "riders 100",
        ):
            self.check_bad(row, 0)
            self.check_bad(f"\n{row}\nride", 1)

    def test_second_riders(self):
        self.check_bad("riders 3\nriders 3", 1)
        self.check_bad("riders 3\nride\n\nriders 2\nx", 3)

    def test_rows_wrongly_written(self):
        for row in (
            " ", "x", "Ride", "ride ", " ride", "ride 0", "undo 1", "undo undo", "next 0", "apart 1", "stops 0",
            "hands 1", "agree 0", "verdict 0", "spans 0 1", "kept 0", "kept x", "pass", "pass 0", "pass 0 1 2",
            "pass 0  1", "pass 0 1 ", "pass 0 0", "pass 0 3", "pass 3 0", "pass -1 0", "pass 0 -1", "pass 00 1",
            "pass 0 01", "pass +0 1", "pass 0 *", "pass -0 1", "pass 0 by 1", "tally", "tally 0", "tally 1 1",
            "tally 0 3", "tally 0 -1", "tally 0 1 2", "hand", "hand 0", "hand 3 1", "hand -1 1", "hand 0 +1",
            "hand 0 -0", "hand 0 01", "hand 0 1000000", "hand 0 -1000000", "hand 0 *", "hand 0 1 1", "hand 0 x",
            "strike", "strike -1", "strike -0", "strike 00", "strike 1000000", "strike 0 1", "strike *", "strike x",
            "hear", "hear ", "hear 0 by 1", "hear 0 by 1 0", "hear 0 by 0 0 0", "hear 0 by 3 0 0", "hear 3 by 0 0 0",
            "hear -1 by 0 0 0", "hear 0 1 0 0", "hear 0 by 1 1 0", "hear 0 by 1 0 -1", "hear 0 by 1 0 0 0",
            "hear 0  by 1 0 0", "hear  0 by 1 0 0", "hear 0 by 1 0 0 ", "hear 0 by 1 1000000 *",
            "hear 0 by 1 * -1000000", "hear 0 by 1 * 0000001", "hear 0 by 1 -0 0", "hear * by 1 0 0",
            "hear 0 by * 0 0", "hear 0 by 1 ** 0", "hear hear 0 by 1 0 0", "0 by 1 0 0", "first_wrong", "needless",
            "saved", "log", "twin", "lead", "come_by 0 1", "passings", "-",
        ):
            self.check_bad(f"riders 3\n{row}", 1)
            self.check_bad(f"\nriders 3\n\nride\n{row}\nx\nriders 3", 4)

    def test_of_one_rider(self):
        for row in ("pass 0 0", "pass 0 1", "tally 0 0", "tally 0 1", "hear 0 by 0 0 0", "hear 0 by 1 * *", "hand 1 0"):
            self.check_bad(f"riders 1\n{row}", 1)

    def test_riders_by_how_many_there_are(self):
        for many in range(2, 13):
            last = many - 1
            for row in ("pass 0 {}", "tally {} 0", "hand {} 3", "hear {} by 0 * *", "hear 0 by {} * *"):
                self.assertTrue(self.check_text(f"riders {many}\n" + row.format(last)))
                self.check_bad(f"riders {many}\n" + row.format(many), 1)

    def test_ahead_of_all(self):
        # A wrong row goes ahead of what would be refused, and nothing is answered.
        self.check_bad("riders 2\nstrike 0\nhear 0 by 1 1 1\nhear 0 by 1 2 2\nspans\nx", 5)

    def test_one_sign_otherwise(self):
        read = 0
        text = "riders 12\npass 0 11\nhand 1 -40\n\nhear 0 by 1 -5 10\nhear 2 by 1 * 0\nstrike 1\ntally 0 1\nundo"
        for other in signs_otherwise(text, " \n-+0159*x"):
            read += self.check_text(other)
        self.assertGreater(read, 50)

    def test_one_row_out_or_twice(self):
        for text in list(random_texts())[::3]:
            rows = text.split("\n")
            for at in range(len(rows)):
                self.check_text("\n".join(rows[:at] + rows[at + 1:]))
                self.check_text("\n".join(rows[:at + 1] + rows[at:]))


if __name__ == "__main__":
    unittest.main()
