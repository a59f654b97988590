import copy
import itertools
import random
import unittest

from tallyring.court import Court
from tallyring.errors import NoBook, NoWord
from tallyring.ring import Ring
from tallyring.tables import first_table
from tallyring.wordcheck import shows_kept, shows_ring
from tallyring.words import first_wrong, judged, spans
from tests.helpers import (
    FAR_NUMBER, Asking, broken_words, kept_words, model_book, model_is_book, model_keeps, model_shows_ring, near_books,
    parameter_names, random_ride, random_words,
)

ASKS = ("words", "verdict", "spans", "first_wrong", "needless")
METHODS = {"hear": ["word"], "strike": ["number"], "undo": [], "twin": [], **{name: [] for name in ASKS}}


class PlainCourt:
    """A court by plain counting: all states, each a list of words, None where one is struck."""

    def __init__(self, states=((),)):
        self.states = list(states)

    def hear(self, word):
        self.states.append(self.states[-1] + (word,))
        return len(self.states[-1]) - 1

    def strike(self, number):
        state = self.states[-1]
        if number not in range(len(state)) or state[number] is None:
            return False
        self.states.append(state[:number] + (None,) + state[number + 1:])
        return True

    def undo(self):
        if len(self.states) == 1:
            return False
        self.states.pop()
        return True

    def words(self):
        return [(number, word) for number, word in enumerate(self.states[-1]) if word is not None]


def court_of(many, words, struck=()):
    court = Court(many)
    for word in words:
        court.hear(word)
    for number in struck:
        court.strike(number)
    return court


def some_courts():
    """Triples (many, words, struck), near and far, kept by a book or not."""
    source = random.Random(107)
    yield 1, [], []
    for many in (2, 3, 5, 12, 13):
        yield many, [], []
        for length in (1, 2, 4, 8, 20, 64):
            for size in (2, FAR_NUMBER):
                book = model_book(random_ride(source, many, size))
                kept = kept_words(source, book, length, 2)
                for words in (kept, broken_words(source, kept, book), random_words(source, many, length, size)):
                    yield many, words, source.sample(range(length), length // 3)


class CourtCase(unittest.TestCase, Asking):
    def check_court(self, court, plain, many):
        words = plain.words()
        self.assertTold(words, court.words())
        self.assertTold(len(words), len(court))
        self.assertIs(bool(court), len(words) > 0)
        written = f"Court({many} riders, {len(words)} words)"
        self.assertTold([written, written], [repr(court), str(court)])

    def check_refused(self, court, number):
        with self.assertRaises(NoWord) as caught:
            court.strike(number)
        self.assertEqual(vars(caught.exception), {"number": number})


class Deeds(CourtCase):
    def test_hear_tells_its_number(self):
        court = Court(3)
        self.assertTold(0, court.hear((0, 1, 5, None)))
        self.assertTold(1, court.hear((0, 1, 5, None)))
        self.assertIsNone(court.strike(0))
        self.assertTold(2, court.hear((1, 2, None, None)))
        self.assertTold([(1, (0, 1, 5, None)), (2, (1, 2, None, None))], court.words())
        self.assertEqual(repr(court), "Court(3 riders, 2 words)")

    def test_numbers_come_again_behind_undo(self):
        court = Court(3)
        court.hear((0, 1, 5, None))
        court.hear((0, 2, 5, None))
        self.assertIs(court.undo(), True)
        self.assertTold(1, court.hear((1, 2, 7, 8)))
        court.strike(1)
        self.assertTold(2, court.hear((1, 2, 9, 9)))
        self.assertIs(court.undo(), True)
        self.assertTold([(0, (0, 1, 5, None))], court.words())
        self.assertTold(2, court.hear((2, 0, 3, 3)))
        self.assertTold([(0, (0, 1, 5, None)), (2, (2, 0, 3, 3))], court.words())

    def test_strike_refused(self):
        court = Court(3)
        plain = PlainCourt()
        for number in (0, 1, -1, FAR_NUMBER):
            self.check_refused(court, number)
        for word in ((0, 1, 5, None), (0, 2, 5, None), (1, 2, 0, 0)):
            court.hear(word)
            plain.hear(word)
        court.strike(1)
        plain.strike(1)
        for number in (1, 3, 4, -1, -2, -3, FAR_NUMBER, -FAR_NUMBER):
            self.check_refused(court, number)
            self.check_court(court, plain, 3)
        # What is refused is no deed: the last one that stands is the strike ahead of it.
        self.assertIs(court.undo(), True)
        self.assertTold([0, 1, 2], [number for number, word in court.words()])

    def test_undo_of_both_and_once_more(self):
        court = Court(2)
        self.assertIs(court.undo(), False)
        court.hear((0, 1, 3, 3))
        court.strike(0)
        self.assertIs(bool(court), False)
        self.assertIs(court.undo(), True)
        self.assertTold([(0, (0, 1, 3, 3))], court.words())
        self.assertIs(court.undo(), True)
        self.assertTold([], court.words())
        self.assertIs(court.undo(), False)
        self.assertIs(court.undo(), False)
        self.assertTold(0, court.hear((1, 0, 3, 3)))

    def test_struck_again_behind_undo(self):
        court = court_of(2, [(0, 1, 3, 3)], [0])
        court.undo()
        self.assertIsNone(court.strike(0))
        self.check_refused(court, 0)

    def test_many_deeds_beside_plain_counting(self):
        source = random.Random(109)
        for many in (2, 3, 12, 13):
            court, plain = Court(many), PlainCourt()
            for _ in range(150):
                choice = source.choice(("hear", "hear", "strike", "undo"))
                if choice == "hear":
                    word = random_words(source, many, 1, 5)[0]
                    self.assertTold(plain.hear(word), court.hear(word))
                elif choice == "undo":
                    self.assertIs(court.undo(), plain.undo())
                else:
                    number = source.randint(-2, len(plain.states[-1]) + 1)
                    if plain.strike(number):
                        self.assertIsNone(court.strike(number))
                    else:
                        self.check_refused(court, number)
                self.check_court(court, plain, many)
            while plain.undo():
                self.assertIs(court.undo(), True)
                self.check_court(court, plain, many)
            self.assertIs(court.undo(), False)

    def test_sixty_words_and_more(self):
        source = random.Random(113)
        words = random_words(source, 12, 70, FAR_NUMBER)
        court = Court(12)
        self.assertEqual([court.hear(word) for word in words], list(range(70)))
        self.assertTold(list(enumerate(words)), court.words())


class Asked(CourtCase):
    def check_verdict(self, many, court):
        counting = dict(court.words())
        words = [word for number, word in court.words()]
        told = court.verdict()
        self.assertIs(type(told), tuple)
        self.assertEqual(len(told), 2)
        self.assertEqual(told[0], judged(many, words)[0])
        if told[0] == "book":
            self.assertTrue(model_is_book(many, told[1]))
            self.assertTrue(model_keeps(told[1], words))
            self.assertIs(shows_kept(many, words, told[1]), True)
        else:
            self.assertIs(type(told[1]), list)
            self.assertTrue(all(number in counting for number, end in told[1]))
            numbers = list(counting)
            places = [(numbers.index(number), end) for number, end in told[1]]
            self.assertTrue(model_shows_ring(words, places))
            self.assertIs(shows_ring(many, words, places), True)
        return told[0]

    def test_verdict_by_the_words_own_numbers(self):
        found = []
        for many, words, struck in some_courts():
            found.append(self.check_verdict(many, court_of(many, words, struck)))
            found.append(self.check_verdict(many, court_of(many, words)))
        self.assertGreater(found.count("book"), 30)
        self.assertGreater(found.count("ring"), 30)

    def test_verdict_written_out(self):
        court = court_of(2, [(0, 1, 3, 3), (0, 1, None, None), (0, 1, 5, None), (1, 0, -4, None)], [0])
        told, ends = court.verdict()
        self.assertEqual((told, sorted(ends)), ("ring", [(2, "low"), (3, "low")]))
        court.strike(2)
        self.assertEqual(court.verdict()[0], "book")
        self.assertTold(("book", ((0,),)), Court(1).verdict())

    def test_spans(self):
        for many, words, struck in some_courts():
            court = court_of(many, words, struck)
            counting = [word for number, word in court.words()]
            if judged(many, counting)[0] == "book":
                self.assertTold(spans(many, counting), court.spans())
            else:
                with self.assertRaises(NoBook) as caught:
                    court.spans()
                self.assertEqual(vars(caught.exception), {})
        self.assertTold([], Court(1).spans())
        self.assertTold([(0, 1, None, None)], Court(2).spans())
        self.assertTold([(0, 1, 3, None)], court_of(2, [(0, 1, 4, 4), (0, 1, 3, None)], [0]).spans())

    def test_first_wrong(self):
        told = set()
        for many, words, struck in some_courts():
            court = court_of(many, words, struck)
            numbers = [number for number, word in court.words()]
            at = first_wrong(many, [word for number, word in court.words()])
            expected = None if at is None else numbers[at]
            self.assertTold(expected, court.first_wrong())
            told.add(expected)
        self.assertGreater(len(told), 8)
        self.assertIsNone(Court(3).first_wrong())

    def test_first_wrong_written_out(self):
        court = court_of(2, [(0, 1, 3, 3), (0, 1, 5, 5), (0, 1, 5, None), (1, 0, -4, None), (0, 1, 9, 9)])
        self.assertTold(1, court.first_wrong())
        court.strike(0)
        self.assertTold(3, court.first_wrong())
        court.strike(3)
        self.assertTold(4, court.first_wrong())
        court.strike(4)
        self.assertTold(None, court.first_wrong())
        court.undo()
        self.assertTold(4, court.first_wrong())


class Needless(CourtCase):
    def test_written_out(self):
        self.assertTold([], Court(2).needless())
        self.assertTold([0], court_of(2, [(0, 1, None, None)]).needless())
        self.assertTold([], court_of(2, [(0, 1, 3, None)]).needless())
        self.assertTold([0], court_of(2, [(0, 1, 3, None), (0, 1, 4, None)]).needless())
        # Of two alike each one is needless, by the other one.
        self.assertTold([0, 1], court_of(2, [(0, 1, 3, 5), (1, 0, -5, -3)]).needless())
        self.assertTold([1], court_of(2, [(0, 1, 3, 5), (0, 1, 2, 6), (0, 1, 4, 4)], [2]).needless())
        self.assertTold([0, 1], court_of(2, [(0, 1, 3, 5), (0, 1, 2, 6), (0, 1, 4, 4)]).needless())

    def test_by_three_riders(self):
        words = [(0, 1, 1, 1), (1, 2, 1, 3), (0, 2, 2, 5)]
        self.assertTold([2], court_of(3, words).needless())
        self.assertTold([], court_of(3, words[:2] + [(0, 2, 3, 5)]).needless())
        self.assertTold([], court_of(3, words[:2] + [(0, 2, 2, 4)]).needless())
        self.assertTold([2], court_of(3, words[:2] + [(2, 0, -5, -2)]).needless())
        self.assertTold([], court_of(3, words[:2] + [(2, 0, -4, -2)]).needless())

    def test_where_no_book_keeps_all_others(self):
        contrary = [(0, 1, 3, None), (0, 1, None, 2)]
        self.assertTold([], court_of(3, contrary).needless())
        self.assertTold([2], court_of(3, contrary + [(1, 2, 7, 7)]).needless())
        self.assertTold([1, 2, 3], court_of(3, contrary + [(1, 2, 7, 7), (0, 1, 2, 2)]).needless())
        self.assertTold([0, 1, 2, 3], court_of(3, contrary * 2).needless())

    def check_by_books(self, many, books, court):
        expected = []
        for number, word in court.words():
            others = [other for each, other in court.words() if each != number]
            if all(model_keeps(book, [word]) for book in books if model_keeps(book, others)):
                expected.append(number)
        self.assertTold(expected, court.needless())
        return len(expected)

    def test_against_small_books(self):
        source = random.Random(127)
        found = []
        for many, rounds, size, count in ((2, 12, 2, 60), (3, 12, 2, 120), (4, 7, 0, 25)):
            books = near_books(many, rounds)
            for at in range(count):
                length = 1 + at % (2 * many)
                book = source.choice(near_books(many, 1)) if at % 3 else None
                words = kept_words(source, book, length, 1) if book else random_words(source, many, length, size)
                court = court_of(many, words, source.sample(range(length), length // 4))
                found.append(self.check_by_books(many, books, court))
        self.assertGreater(found.count(0), 20)
        self.assertGreater(len(found) - found.count(0), 60)

    def test_many_words(self):
        for many, words, struck in itertools.islice(some_courts(), 0, None, 4):
            court = court_of(many, words, struck)
            told = court.needless()
            for number, word in court.words():
                others = [other for each, other in court.words() if each != number]
                if judged(many, others)[0] == "ring":
                    self.assertIn(number, told)
                    continue
                i, j, low, high = word
                a, b = min(i, j), max(i, j)
                least, most = [span[2:] for span in spans(many, others) if span[:2] == (a, b)][0]
                if i > j:
                    least, most = (None if most is None else -most), (None if least is None else -least)
                kept_low = low is None or least is not None and least >= low
                kept_high = high is None or most is not None and most <= high
                self.assertIs(number in told, kept_low and kept_high)


class TwoCourts(CourtCase):
    def test_twins_go_on_by_themselves(self):
        court = court_of(3, [(0, 1, 3, 3), (1, 2, 0, None)], [0])
        twin = court.twin()
        self.assertIs(court == twin, True)
        self.assertTold(court.words(), twin.words())
        twin.hear((0, 2, 5, 5))
        self.assertTold([(1, (1, 2, 0, None))], court.words())
        court.strike(1)
        self.assertTold([(1, (1, 2, 0, None)), (2, (0, 2, 5, 5))], twin.words())
        self.assertTold(2, court.hear((0, 2, 6, 6)))
        for _ in range(4):
            self.assertIs(twin.undo(), True)
        self.assertIs(twin.undo(), False)
        self.assertTold([(2, (0, 2, 6, 6))], court.words())
        self.assertTold(0, twin.hear((0, 1, 9, 9)))

    def test_equal(self):
        one, other = Court(3), Court(3)
        self.assertIs(one == other, True)
        self.assertIs(one != other, False)
        one.hear((0, 1, 3, 3))
        self.assertIs(one == other, False)
        self.assertIs(one != other, True)
        other.hear((0, 1, 3, 3))
        self.assertIs(one == other, True)
        self.assertIs(one == court_of(3, [(0, 1, 3, 4)]), False)
        # Struck words don't count, but the numbers of those that do are asked of.
        one.hear((1, 2, 0, 0))
        one.strike(1)
        self.assertIs(one == other, True)
        one.hear((1, 2, 7, 7))
        other.hear((1, 2, 7, 7))
        self.assertIs(one == other, False)
        self.assertTold([2, 1], [one.words()[1][0], other.words()[1][0]])
        self.assertIs(one == one, True)

    def test_of_other_riders(self):
        for many, other in itertools.product(range(1, 5), repeat=2):
            self.assertIs(Court(many) == Court(other), many == other)
        self.assertIs(court_of(3, [(0, 1, 3, 3)]) == court_of(4, [(0, 1, 3, 3)]), False)

    def test_of_another_class(self):
        court = court_of(2, [(0, 1, 3, 3)])
        for thing in (court.words(), None, 2, "", repr(court), [], Ring(first_table(2)), [court], object()):
            self.assertIs(court == thing, False)
            self.assertIs(thing == court, False)
            self.assertIs(court != thing, True)

    def test_empty_court(self):
        for many in (1, 2, 12):
            court = Court(many)
            self.check_court(court, PlainCourt(), many)
            self.assertIs(bool(court), False)
            self.assertEqual(repr(court), f"Court({many} riders, 0 words)")
        court.hear((0, 1, None, None))
        self.assertIs(bool(court), True)
        court.strike(0)
        self.assertIs(bool(court), False)


class Told(CourtCase):
    def test_by_names(self):
        self.assertEqual(parameter_names(Court), ["many"])
        court = Court(many=3)
        for name, expected in METHODS.items():
            self.assertEqual(parameter_names(getattr(court, name)), expected)
            self.assertIn(name, vars(Court))
        for name in ("__eq__", "__len__", "__repr__"):
            self.assertIn(name, vars(Court))
        self.assertTold(0, court.hear(word=(0, 1, 2, 3)))
        self.assertIsNone(court.strike(number=0))
        self.assertTold([], court.words())

    def test_asked_again_and_told_lists_changed(self):
        for many, words, struck in itertools.islice(some_courts(), 0, None, 5):
            court = court_of(many, words, struck)
            before = court.words()
            for name in ASKS:
                if name != "spans" or court.verdict()[0] == "book":
                    self.check_asking(getattr(court, name))
            self.assertTold(before, court.words())

    def test_refused_spans_change_nothing(self):
        court = court_of(2, [(0, 1, 3, None), (0, 1, None, 2)])
        for _ in range(2):
            with self.assertRaises(NoBook):
                court.spans()
            self.assertEqual(len(court), 2)
        self.assertIs(court.undo(), True)
        self.assertTold([(0, 1, 3, None)], court.spans())

    def test_the_same_of_two_to_which_the_same_was_done(self):
        for many, words, struck in itertools.islice(some_courts(), 0, None, 7):
            one, other = court_of(many, words, struck), court_of(many, words, struck)
            self.assertTold(one.verdict(), other.verdict())
            self.assertTold(one.verdict(), copy.deepcopy(one).verdict())
            self.assertTold(one.verdict(), one.twin().verdict())
            self.assertTold(one.needless(), other.needless())


if __name__ == "__main__":
    unittest.main()
