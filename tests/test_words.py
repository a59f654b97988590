import itertools
import random
import unittest

from tallyring.errors import NoBook
from tallyring.tables import first_table
from tallyring.wordcheck import shows_kept, shows_ring
from tallyring.words import first_wrong, is_word, judged, keeps, spans
from tests.helpers import (
    FAR_NUMBER, STRANGE, Asking, broken_words, is_int, kept_words, model_book, model_is_book, model_is_word,
    model_keeps, model_shows_ring, near_books, one_otherwise, random_ride, random_words, same_kind, sample_rides,
    table_from, unfit_triples,
)


def word_lists():
    """Pairs (many, words): none, few, sixty and more, near and far, kept by a book or not."""
    source = random.Random(31)
    for many in range(1, 14):
        yield many, []
        for length in (1, 2, 3, 5, 9, 20, 60, 70) if many > 1 else ():
            for size in (1, 4, FAR_NUMBER):
                yield many, random_words(source, many, length, size)
                for slack in (0, 2, size):
                    book = model_book(random_ride(source, many, size))
                    words = kept_words(source, book, length, slack)
                    yield many, words
                    yield many, broken_words(source, words, book)


def some_rings():
    """Triples (many, words, ring), by lists of words that no book keeps."""
    for many, words in word_lists():
        told, ends = judged(many, words)
        if told == "ring":
            yield many, words, ends


RING_WORDS = [(0, 1, 1, None), (2, 1, None, 5), (1, 2, 1, None), (0, 2, None, 1), (0, 2, 3, 4)]
RING = [(3, "high"), (2, "low"), (0, "low")]


class IsWord(unittest.TestCase, Asking):
    def test_words(self):
        for thing in (
            (0, 1, 0, 0), (1, 0, -3, 4), (0, 2, None, 5), (2, 1, 5, None), (2, 0, None, None), (0, 1, -7, -7),
            (0, 1, -FAR_NUMBER, FAR_NUMBER), (0, 1, 10 ** 30, None),
        ):
            self.assertIs(is_word(3, thing), True)

    def test_no_words(self):
        for thing in (
            (0, 0, 0, 0), (1, 1, None, None), (0, 3, 0, 0), (3, 0, 0, 0), (-1, 0, 0, 0), (0, -1, 0, 0), (0, 1, 1, 0),
            (0, 1, FAR_NUMBER, -FAR_NUMBER), (0, 1, 0), (0, 1), (0, 1, 0, 0, 0), [0, 1, 0, 0], (False, 1, 0, 0),
            (0, True, 0, 0), (0, 1, False, 0), (0, 1, 0, False), (0, 1, 0, True), (0, 1, False, None), ("0", 1, 0, 0),
            (0, 1, "0", 0), (0, 1, 0, ""), (None, 1, 0, 0), (0, None, 0, 0), (0, 1, (), 0), (0, 1, None, [0]),
            (0, 1, None, "*"), ((0, 1, 0, 0),), (0, 1, (0, 0)), ((0, 1), (0, 0)), ([0], 1, 0, 0),
        ):
            self.assertIs(is_word(3, thing), False, repr(thing))

    def test_as_many_riders(self):
        for many in range(1, 6):
            for i, j in itertools.product(range(-2, 7), repeat=2):
                inside = i in range(many) and j in range(many) and i != j
                self.assertIs(is_word(many, (i, j, None, None)), inside)

    def test_all_ends(self):
        for low, high in itertools.product((None, -2, -1, 0, 1, 2, True, False, "1", [1], (1,)), repeat=2):
            self.assertIs(is_word(2, (1, 0, low, high)), model_is_word(2, (1, 0, low, high)))

    def test_one_thing_otherwise(self):
        for word in ((0, 1, 0, 0), (1, 0, 0, 1), (2, 0, -5, 7), (1, 2, None, 3), (2, 1, 0, None), (0, 2, None, None)):
            self.assertIs(is_word(3, word), True)
            for thing in one_otherwise(word):
                self.assertIs(is_word(3, thing), model_is_word(3, thing), repr(thing))

    def test_strange_things(self):
        for thing in STRANGE:
            for many in (1, 2, 12):
                self.assertIs(is_word(many, thing), False, repr(thing))

    def test_asking(self):
        for thing in ((0, 1, 0, 0), (0, 0, 0, 0), [0, 1, 0, 0], None, ([], [], 0, 0)):
            self.check_asking(is_word, many=3, thing=thing)


class Keeps(unittest.TestCase, Asking):
    def test_word_by_word(self):
        for ride in sample_rides():
            book = model_book(ride)
            for i, j in itertools.permutations(range(len(ride)), 2):
                tally = book[i][j]
                for low, high in itertools.product((None, tally - 1, tally, tally + 1), repeat=2):
                    if low is None or high is None or low <= high:
                        expected = (low is None or tally >= low) and (high is None or tally <= high)
                        self.assertIs(keeps(book, [(i, j, low, high)]), expected)

    def test_no_words(self):
        for ride in sample_rides():
            self.assertIs(keeps(model_book(ride), []), True)
            self.assertIs(keeps(model_book(ride), ()), True)

    def test_all_of_several(self):
        source = random.Random(37)
        for many in (2, 3, 6, 12):
            for size in (3, FAR_NUMBER):
                book = model_book(random_ride(source, many, size))
                words = kept_words(source, book, 60, 2)
                self.assertIs(keeps(book, words), True)
                for _ in range(9):
                    self.assertIs(keeps(book, broken_words(source, words, book)), False)

    def test_asking(self):
        for words in ([], [(0, 1, 0, 0)], [(1, 0, None, -1), (0, 1, 1, 1)], ((0, 1, 1, None),)):
            self.check_asking(keeps, book=((0, 1), (-1, 0)), words=words)


class Judged(unittest.TestCase, Asking):
    def check_judged(self, many, words):
        told = judged(many, words)
        self.assertIs(type(told), tuple)
        self.assertEqual(len(told), 2)
        if told[0] == "book":
            self.assertTrue(model_is_book(many, told[1]))
            self.assertTrue(model_keeps(told[1], words))
            self.assertIs(shows_kept(many, words, told[1]), True)
        else:
            self.assertEqual(told[0], "ring")
            self.assertTrue(model_shows_ring(words, told[1]), repr((words, told[1])))
            self.assertIs(shows_ring(many, words, told[1]), True)
        return told[0]

    def test_no_words(self):
        for many in range(1, 14):
            self.assertEqual(self.check_judged(many, []), "book")
        self.assertTold(("book", ((0,),)), judged(1, []))

    def test_written_out(self):
        self.assertTold(("book", ((0, 5), (-5, 0))), judged(2, [(0, 1, 5, 5)]))
        self.assertTold(("book", ((0, -5), (5, 0))), judged(2, [(1, 0, 5, 5)]))
        self.assertTold(("book", table_from(3, {(0, 1): 1, (0, 2): 3, (1, 2): 1})),
                        judged(3, [(0, 1, 1, 1), (0, 2, 3, None), (1, 2, None, 1)]))
        self.assertEqual(self.check_judged(3, [(0, 1, 1, 1), (0, 2, 4, None), (1, 2, None, 1)]), "ring")
        self.assertEqual(self.check_judged(3, [(0, 1, 1, 1), (0, 2, None, 1), (1, 2, 1, None)]), "ring")
        self.assertEqual(self.check_judged(3, RING_WORDS), "ring")

    def test_two_riders(self):
        for i, j in ((0, 1), (1, 0)):
            for low, high in itertools.product(range(-3, 4), repeat=2):
                words = [(i, j, low, None), (i, j, None, high)]
                self.assertEqual(self.check_judged(2, words), "book" if low <= high else "ring")
                words = [(i, j, low, None), (j, i, high, None)]
                self.assertEqual(self.check_judged(2, words), "book" if low <= -high else "ring")

    def test_all_tables_of_exact_words(self):
        pairs = ((0, 1), (0, 2), (1, 2))
        for tallies in itertools.product(range(-2, 3), repeat=3):
            table = table_from(3, dict(zip(pairs, tallies)))
            expected = "ring" if unfit_triples(table) else "book"
            for turned_about in itertools.product((False, True), repeat=3):
                words = []
                for (i, j), about in zip(pairs, turned_about):
                    a, b = (j, i) if about else (i, j)
                    words.append((a, b, table[a][b], table[a][b]))
                self.assertEqual(self.check_judged(3, words), expected)

    def test_books_wherever_there_are_some_and_rings_else(self):
        found = [self.check_judged(many, words) for many, words in word_lists()]
        self.assertGreater(found.count("book"), 300)
        self.assertGreater(found.count("ring"), 300)

    def test_book_told_all_by_its_words(self):
        for ride in sample_rides():
            book = model_book(ride)
            words = [(i, j, book[i][j], book[i][j]) for i, j in itertools.permutations(range(len(ride)), 2)]
            self.assertTold(("book", book), judged(len(ride), words))

    def test_words_kept_by_a_book_that_was_there_first(self):
        source = random.Random(41)
        for many in (2, 4, 8, 12):
            for size in (0, 2, FAR_NUMBER):
                for slack in (0, 1, 5):
                    book = model_book(random_ride(source, many, size))
                    self.assertEqual(self.check_judged(many, kept_words(source, book, 60, slack)), "book")

    def test_long_rings(self):
        for many in range(2, 13):
            for far in (0, 1, FAR_NUMBER):
                rising = [(at, at + 1, far, None) for at in range(many - 1)]
                whole = far * (many - 1)
                self.assertEqual(self.check_judged(many, rising + [(0, many - 1, None, whole)]), "book")
                self.assertEqual(self.check_judged(many, rising + [(0, many - 1, None, whole - 1)]), "ring")
                falling = [(at, at + 1, None, far) for at in range(many - 1)]
                most = whole + many - 2
                self.assertEqual(self.check_judged(many, falling + [(many - 1, 0, None, -most)]), "book")
                self.assertEqual(self.check_judged(many, falling + [(many - 1, 0, None, -most - 1)]), "ring")

    def test_asking(self):
        for many, words in list(word_lists())[::9]:
            self.check_asking(judged, many=many, words=words)
            self.assertTold(judged(many, words), judged(many, tuple(words)))


class Spans(unittest.TestCase, Asking):
    def check_against_books(self, many, books, words, edge):
        """Edge: how far, at the most, an end of each rider but one comes to together."""
        kept = [book for book in books if model_keeps(book, words)]
        if not kept:
            with self.assertRaises(NoBook):
                spans(many, words)
            return
        expected = []
        for i, j in itertools.combinations(range(many), 2):
            tallies = {book[i][j] for book in kept}
            low, high = min(tallies), max(tallies)
            self.assertEqual(len(tallies), high - low + 1)
            expected.append((i, j, None if low < -edge else low, None if high > edge else high))
        self.assertTold(expected, spans(many, words))

    def test_written_out(self):
        self.assertTold([], spans(1, []))
        self.assertTold([(0, 1, None, None)], spans(2, []))
        self.assertTold([(0, 1, 3, None)], spans(2, [(0, 1, 3, None)]))
        self.assertTold([(0, 1, None, -3)], spans(2, [(1, 0, 3, None)]))
        self.assertTold([(0, 1, -4, 9)], spans(2, [(1, 0, None, 4), (0, 1, -7, 9)]))
        self.assertTold([(0, 1, 1, 1), (0, 2, 2, 5), (1, 2, 1, 3)], spans(3, [(0, 1, 1, 1), (1, 2, 1, 3)]))
        self.assertTold([(0, 1, 1, 1), (0, 2, 5, 5), (1, 2, 3, 4)], spans(3, [(0, 1, 1, 1), (0, 2, 5, 5)]))

    def test_against_small_books(self):
        source = random.Random(43)
        for many, rounds, size, count in ((2, 12, 2, 100), (3, 12, 2, 400), (4, 9, 1, 60)):
            books = near_books(many, rounds)
            for at in range(count):
                words = random_words(source, many, 1 + at % (2 * many), size)
                self.check_against_books(many, books, words, (many - 1) * (size + 1))

    def test_each_end_is_kept_and_none_beyond(self):
        told = 0
        for many, words in list(word_lists())[::5]:
            if judged(many, words)[0] == "ring":
                continue
            for i, j, low, high in spans(many, words)[::7]:
                told += 1
                self.check_end(many, words, (i, j, low, low), (i, j, None, None if low is None else low - 1))
                self.check_end(many, words, (i, j, high, high), (i, j, None if high is None else high + 1, None))
                if low is None:
                    self.assertEqual(judged(many, words + [(i, j, None, -10 ** 15)])[0], "book")
                if high is None:
                    self.assertEqual(judged(many, words + [(i, j, 10 ** 15, None)])[0], "book")
                if low is not None and high is not None:
                    amid = (low + high) // 2
                    self.assertEqual(judged(many, words + [(i, j, amid, amid)])[0], "book")
        self.assertGreater(told, 150)

    def check_end(self, many, words, at_end, beyond):
        if at_end[2] is not None:
            self.assertEqual(judged(many, words + [at_end])[0], "book")
            self.assertEqual(judged(many, words + [beyond])[0], "ring")

    def test_all_pairs_in_order(self):
        for many, words in list(word_lists())[::5]:
            if judged(many, words)[0] == "book":
                pairs = [(i, j) for i, j, low, high in spans(many, words)]
                self.assertEqual(pairs, list(itertools.combinations(range(many), 2)))

    def test_no_book(self):
        for many, words, ring in list(some_rings())[::3]:
            with self.assertRaises(NoBook):
                spans(many, words)

    def test_far(self):
        words = [(0, 1, FAR_NUMBER, FAR_NUMBER), (1, 2, -FAR_NUMBER, FAR_NUMBER)]
        expected = [(0, 1, FAR_NUMBER, FAR_NUMBER), (0, 2, 0, 2 * FAR_NUMBER + 1), (1, 2, -FAR_NUMBER, FAR_NUMBER)]
        self.assertTold(expected, spans(3, words))

    def test_asking(self):
        for many, words in list(word_lists())[::9]:
            if judged(many, words)[0] == "book":
                self.check_asking(spans, many=many, words=words)
                self.assertTold(spans(many, words), spans(many, tuple(words)))
        words = list(RING_WORDS)
        with self.assertRaises(NoBook):
            spans(words=words, many=3)
        self.assertTold(RING_WORDS, words)


class FirstWrong(unittest.TestCase, Asking):
    def test_written_out(self):
        self.assertTold(None, first_wrong(3, []))
        self.assertTold(None, first_wrong(1, []))
        self.assertTold(None, first_wrong(3, [(0, 1, 5, 5)]))
        self.assertTold(1, first_wrong(3, [(0, 1, 5, 5), (1, 0, 5, 5)]))
        self.assertTold(2, first_wrong(3, [(0, 1, 5, 5), (0, 2, None, None), (0, 1, None, 4), (0, 1, 9, 9)]))
        self.assertTold(3, first_wrong(3, RING_WORDS))
        self.assertTold(None, first_wrong(3, RING_WORDS[:3]))

    def test_book_ahead_of_it_ring_with_it(self):
        found = []
        for many, words in list(word_lists())[::2]:
            number = first_wrong(many, words)
            found.append(number)
            if number is None:
                self.assertEqual(judged(many, words)[0], "book")
            else:
                self.assertTrue(is_int(number))
                self.assertEqual(judged(many, words[:number])[0], "book")
                self.assertEqual(judged(many, words[:number + 1])[0], "ring")
        self.assertGreater(found.count(None), 50)
        self.assertGreater(len(set(found)), 20)

    def test_asking(self):
        for many, words in list(word_lists())[::25]:
            self.check_asking(first_wrong, many=many, words=words)
            self.assertTold(first_wrong(many, words), first_wrong(many, tuple(words)))


class ShowsKept(unittest.TestCase, Asking):
    def test_book_that_keeps_all(self):
        source = random.Random(47)
        for ride in sample_rides():
            book = model_book(ride)
            self.assertIs(shows_kept(len(ride), [], book), True)
            if len(ride) > 1:
                words = kept_words(source, book, 60, 3)
                self.assertIs(shows_kept(len(ride), words, book), True)
                self.assertIs(shows_kept(len(ride), tuple(words), book), True)
                self.assertIs(shows_kept(len(ride), broken_words(source, words, book), book), False)

    def test_books_of_other_riders(self):
        for many, other in itertools.product(range(1, 6), repeat=2):
            self.assertIs(shows_kept(many, [], first_table(other)), many == other)
        self.assertIs(shows_kept(2, [(0, 1, 0, 0)], first_table(1)), False)

    def test_one_thing_otherwise(self):
        book = table_from(3, {(0, 1): 1, (0, 2): 3, (1, 2): 1})
        for words in ([], [(0, 1, 1, 1)], [(0, 2, None, 3), (2, 1, None, 0)]):
            self.assertIs(shows_kept(3, words, book), True)
            for thing in one_otherwise(book):
                expected = model_is_book(3, thing) and model_keeps(thing, words)
                self.assertIs(shows_kept(3, words, thing), expected, repr(thing))
        self.assertIs(shows_kept(3, [], table_from(3, {(0, 1): 1})), False)

    def test_strange_things(self):
        for thing in STRANGE:
            for many in (1, 2, 3):
                self.assertIs(shows_kept(many, [], thing), model_is_book(many, thing), repr(thing))
        for thing in (("book", first_table(2)), [(0, 0), (0, 0)], ([0, 0], [0, 0]), ((0, False), (0, 0))):
            self.assertIs(shows_kept(2, [], thing), False)

    def test_asking(self):
        for thing in (first_table(2), ((0, 1), (-1, 0)), [[0, 0], [0, 0]], None):
            self.check_asking(shows_kept, many=2, words=[(0, 1, 0, 0)], thing=thing)


class ShowsRing(unittest.TestCase, Asking):
    def test_written_out(self):
        self.assertIs(shows_ring(3, RING_WORDS, RING), True)
        self.assertIs(shows_ring(2, [(0, 1, 2, None), (0, 1, None, 1)], [(0, "low"), (1, "high")]), True)
        self.assertIs(shows_ring(2, [(0, 1, 1, None), (0, 1, None, 1)], [(0, "low"), (1, "high")]), False)
        self.assertIs(shows_ring(2, [(1, 0, 2, None), (1, 0, None, 1)], [(0, "low"), (1, "high")]), True)
        self.assertIs(shows_ring(2, [(1, 0, 1, None), (1, 0, None, 1)], [(0, "low"), (1, "high")]), False)
        self.assertIs(shows_ring(2, [(0, 1, 1, 1)], [(0, "low"), (0, "high")]), False)
        self.assertIs(shows_ring(2, [(0, 1, 1, None), (1, 0, 1, None)], [(0, "low"), (1, "low")]), True)

    def test_begun_at_any_of_its_ends(self):
        for many, words, ring in some_rings():
            for at in range(len(ring)):
                self.assertIs(shows_ring(many, words, ring[at:] + ring[:at]), True)
            self.assertIs(shows_ring(many, tuple(words), ring), True)
            if len(ring) > 2:
                self.assertIs(shows_ring(many, words, ring[::-1]), False)

    def test_all_lists_of_ends(self):
        words = [(0, 1, 0, 1), (1, 0, 1, None), (0, 2, None, -1), (2, 1, 1, 1), (1, 2, 0, None)]
        ends = list(itertools.product(range(len(words)), ("low", "high")))
        shown = 0
        for length in range(4):
            for thing in itertools.product(ends, repeat=length):
                expected = model_shows_ring(words, list(thing))
                shown += expected
                self.assertIs(shows_ring(3, words, list(thing)), expected, repr(thing))
        self.assertGreater(shown, 5)

    def test_ring_twice_round_is_none(self):
        for many, words, ring in some_rings():
            self.assertIs(shows_ring(many, words, ring + ring), False)
            self.assertIs(shows_ring(many, words, ring * 3), False)

    def test_one_thing_otherwise(self):
        for many, words, ring in list(some_rings())[::11] + [(3, RING_WORDS, RING)]:
            for thing in one_otherwise(ring):
                self.assertIs(shows_ring(many, words, thing), model_shows_ring(words, thing), repr(thing))
            for at, (number, end) in enumerate(ring):
                for other in ("low", "high", "", "Low", "LOW", "lo", "low ", None, 0, True, ["low"], ("low",)):
                    thing = ring[:at] + [(number, other)] + ring[at + 1:]
                    self.assertIs(shows_ring(many, words, thing), model_shows_ring(words, thing), repr(thing))

    def test_numbers_from_the_end_are_none(self):
        words = [(0, 1, 3, None), (0, 1, None, 1)]
        self.assertIs(shows_ring(2, words, [(0, "low"), (1, "high")]), True)
        self.assertIs(shows_ring(2, words, [(0, "low"), (-1, "high")]), False)
        self.assertIs(shows_ring(2, words, [(-2, "low"), (1, "high")]), False)
        self.assertIs(shows_ring(3, RING_WORDS, [(-2, "high"), (2, "low"), (0, "low")]), False)
        self.assertIs(shows_ring(3, RING_WORDS, [(3, "high"), (2, "low"), (-5, "low")]), False)
        self.assertIs(shows_ring(3, RING_WORDS, [(5, "high"), (2, "low"), (0, "low")]), False)

    def test_ends_that_are_not_there(self):
        words = [(0, 1, 3, None), (0, 1, None, 1)]
        self.assertIs(shows_ring(2, words, [(0, "low"), (1, "high")]), True)
        self.assertIs(shows_ring(2, words, [(0, "high"), (1, "low")]), False)
        self.assertIs(shows_ring(2, words, [(0, "low"), (0, "high")]), False)

    def test_strange_things(self):
        for thing in STRANGE + [("ring", RING), tuple(RING), [list(end) for end in RING], RING[:1], [RING], "low"]:
            self.assertIs(shows_ring(3, RING_WORDS, thing), False, repr(thing))
            self.assertIs(shows_ring(3, [], thing), False, repr(thing))

    def test_asking(self):
        for many, words, ring in list(some_rings())[::20]:
            self.check_asking(shows_ring, many=many, words=words, thing=ring)
        self.check_asking(shows_ring, many=3, words=RING_WORDS, thing=[[0, "low"], None])


class NeverBoth(unittest.TestCase):
    def test_no_book_keeps_all_where_a_ring_is_shown(self):
        source = random.Random(53)
        books = near_books(3, 4)
        for _ in range(150):
            words = random_words(source, 3, 4, 2)
            some_book = any(model_keeps(book, words) for book in books)
            self.assertEqual(judged(3, words)[0], "book" if some_book else "ring")
            self.assertTrue(same_kind(judged(3, words), judged(3, words)))


if __name__ == "__main__":
    unittest.main()
