"""What the document promises over the whole program, of books that came of deeds."""

import itertools
import random
import unittest

from tallyring.agreecheck import shows_dearest
from tallyring.agreeing import agreeing, dearest, hand_row, levels
from tallyring.court import Court
from tallyring.errors import NotNext
from tallyring.fewest import apart, is_between, least_way, needs, shows_way
from tallyring.hands import handed_all
from tallyring.otherwise import left_out, mirrored, numbered, put_in
from tallyring.passing import next_pairs, passed_all
from tallyring.ridecheck import shows_ride, shows_three
from tallyring.rides import book_of, ride_of
from tallyring.ring import Ring
from tallyring.speeds import book_at, passings_till
from tallyring.stops import sprint_row, sprints, stop_row, stops
from tallyring.tables import amiss, first_table, is_book
from tallyring.texts import book_in, book_text
from tallyring.turning import led_over, shows_led
from tallyring.wordcheck import shows_kept, shows_ring
from tallyring.words import keeps
from tests.helpers import FAR_NUMBER, Asking, kept_words, random_ride, random_words, table_from


def do_deeds(source, ring, count, most):
    """Deeds of all sorts, refused ones and undone ones among them."""
    for _ in range(count):
        rider = source.randrange(len(ring))
        pairs = next_pairs(ring.book())
        choice = source.randrange(5)
        if choice == 0:
            ring.hand(rider, source.randint(-most, most))
        elif choice == 1 and pairs:
            ring.come_by(*source.choice(pairs))
        elif choice == 2 and pairs:
            i, j = source.choice(pairs)
            ring.lead([(i, j), (j, i)])
        elif choice == 3:
            ring.undo()
        else:
            try:
                ring.come_by(rider, rider)
            except NotNext:
                pass


def told_otherwise(source, book):
    yield book
    yield mirrored(book)
    yield put_in(book, source.randrange(len(book)))
    yield numbered(book, tuple(source.sample(range(len(book)), len(book))))
    if len(book) > 1:
        yield left_out(book, source.randrange(len(book)))


def kept_rings(most=9):
    source = random.Random(151)
    for many in (1, 2, 3, 4, 5, 8, 12):
        for _ in range(5):
            ring = Ring(first_table(many))
            do_deeds(source, ring, 25, most)
            yield source, ring


def kept_courts(length):
    """Kept rings of two riders and more, each with a court whose words its book keeps."""
    for source, ring in kept_rings(5):
        if len(ring) > 1:
            court = Court(len(ring))
            for word in kept_words(source, ring.book(), length, 2):
                court.hear(word)
            yield source, ring, court


class Whole(unittest.TestCase, Asking):
    def test_ride_or_three_never_both(self):
        for source, ring in kept_rings(FAR_NUMBER):
            for book in told_otherwise(source, ring.book()):
                told, ride = ride_of(book)
                self.assertEqual(told, "ride")
                self.assertIs(shows_ride(book, ride), True)
                for three in itertools.combinations(range(len(book)), 3):
                    self.assertIs(shows_three(book, three), False)
                self.assertTold(book, book_in(book_text(book)))
                self.assertTold(book, book_of(ride))
                self.check_one_tally_otherwise(source, book)

    def check_one_tally_otherwise(self, source, book):
        if len(book) < 2:
            return
        tallies = {(i, j): book[i][j] for i, j in itertools.combinations(range(len(book)), 2)}
        tallies[source.choice(list(tallies))] += source.choice((-2, -1, 1, 2))
        table = table_from(len(book), tallies)
        told, shown = ride_of(table)
        self.assertEqual(told, "ride" if is_book(table) else "three")
        self.assertIs(shows_ride(table, shown), told == "ride")
        self.assertIs(shows_three(table, shown), told == "three")
        self.assertEqual(amiss(table), None if told == "ride" else shown)

    def test_fewest_passings(self):
        for source, ring in kept_rings(3):
            first, book = first_table(len(ring)), ring.book()
            way = least_way(first, book)
            self.assertEqual(len(way), apart(first, book))
            self.assertEqual(len(way), sum(more for i, j, more in needs(first, book)))
            self.assertEqual(ring.saved(), ring.passings() - len(way))
            self.assertTold(book, passed_all(first, way))
            back = [(j, i) for i, j in way[::-1]]
            self.assertIs(shows_way(book, first, back), True)
            if len(way) <= 8:
                other = [(j, i) for i, j in least_way(book, first)[::-1]]
                self.assertIs(shows_led(way, other, led_over(first, way, other)), True)

    def test_fewest_hands(self):
        for source, ring in kept_rings(FAR_NUMBER):
            first, book = first_table(len(ring)), ring.book()
            order = source.sample(stops(first, book), len(stops(first, book)))
            self.assertTold(book, handed_all(first, stop_row(first, book, order)))
            order = source.sample(sprints(first, book), len(sprints(first, book)))
            self.assertTold(book, handed_all(first, sprint_row(first, book, order)))
            staying = agreeing(first, book)
            row = hand_row(first, book, staying)
            self.assertTold(book, handed_all(first, row))
            self.assertLessEqual(len(row), min(len(stops(first, book)), len(sprints(first, book))))
            prices = [source.randint(0, 9) for _ in book]
            worth, riders = dearest(first, book, prices)
            self.assertIs(shows_dearest(first, book, prices, (worth, riders, levels(first, book, prices))), True)

    def test_hands_alone_are_as_many_as_riders_at_the_most(self):
        source = random.Random(157)
        for many in (2, 3, 6, 12):
            for count in (0, 1, 2, 3):
                ring = Ring(first_table(many))
                for rider in source.sample(range(many), min(count, many)):
                    ring.hand(rider, source.randint(-40, 40))
                fewest = many - len(agreeing(first_table(many), ring.book()))
                self.assertLessEqual(fewest, ring.hands())

    def test_between_two_books_that_keep_all_words(self):
        for source, ring in kept_rings(3):
            if len(ring) < 2:
                continue
            first, book = first_table(len(ring)), ring.book()
            words = [word for word in kept_words(source, book, 40, 4) if keeps(first, [word])]
            self.assertTrue(keeps(first, words) and keeps(book, words))
            on_way = Ring(first)
            for pair in least_way(first, book):
                on_way.come_by(*pair)
                self.assertIs(is_between(first, book, on_way.book()), True)
                self.assertIs(keeps(on_way.book(), words), True)

    def test_verdict_shown(self):
        for source, ring, court in kept_courts(10):
            self.assertIs(keeps(ring.book(), [word for number, word in court.words()]), True)
            for i, j, low, high in court.spans():
                self.assertTrue(low is None or low <= ring.tally(i, j))
                self.assertTrue(high is None or ring.tally(i, j) <= high)
            for word in random_words(source, len(ring), 12, 6):
                court.hear(word)
            told, shown = court.verdict()
            words = [word for number, word in court.words()]
            if told == "book":
                self.assertIs(shows_kept(len(ring), words, shown), True)
            else:
                self.assertIs(shows_ring(len(ring), words, shown), True)

    def test_what_is_needless_may_be_struck(self):
        for source, ring, court in kept_courts(20):
            before = court.spans()
            while court.needless():
                court.strike(court.needless()[0])
            self.assertTold(before, court.spans())

    def test_steady_riders_from_a_kept_ring_on(self):
        for source, ring in kept_rings():
            speeds = [source.randint(0, 4) for _ in range(len(ring))]
            for beat in (0, 1, 7, FAR_NUMBER):
                book = book_at(ring.ride(), speeds, beat)
                self.assertTrue(is_book(book))
                self.assertEqual(apart(ring.book(), book), passings_till(ring.ride(), speeds, beat))

    def test_the_same_to_any_ride_of_a_book(self):
        source = random.Random(163)
        for many in (1, 2, 5, 12):
            ride = random_ride(source, many, 9)
            on = tuple(place + 7 for place in ride)
            speeds = [source.randint(0, 9) for _ in ride]
            self.assertTold(book_at(ride, speeds, 5), book_at(on, speeds, 5))


if __name__ == "__main__":
    unittest.main()
