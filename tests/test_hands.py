import random
import unittest

from tallyring.hands import handed, handed_all
from tallyring.passing import passed
from tallyring.rides import behind
from tallyring.tables import first_table
from tests.helpers import (
    FAR_NUMBER, Asking, model_book, model_handed, random_ride, sample_rides, table_from,
)


def with_rounds(book, rider, rounds):
    """The book with so much more in each of a rider's tallies."""
    rows = [list(row) for row in book]
    for other in range(len(book)):
        if other != rider:
            rows[rider][other] += rounds
            rows[other][rider] -= rounds
    return tuple(tuple(row) for row in rows)


def hands_of(source, many, length, size):
    return [(source.randrange(many), source.randint(-size, size)) for _ in range(length)]


class Handed(unittest.TestCase, Asking):
    def test_written_out(self):
        first = first_table(3)
        self.assertTold(table_from(3, {(0, 2): 1}), handed(first, 0, 1))
        self.assertTold(table_from(3, {(0, 1): 1, (0, 2): 1}), handed(first, 0, 2))
        self.assertTold(table_from(3, {(0, 1): 1, (0, 2): 2}), handed(first, 0, 3))
        self.assertTold(table_from(3, {(0, 1): -1}), handed(first, 0, -1))
        self.assertTold(table_from(3, {(0, 1): -1, (0, 2): -1}), handed(first, 0, -2))
        self.assertTold(table_from(3, {(0, 1): -2, (0, 2): -1}), handed(first, 0, -3))
        self.assertTold(((0, 7), (-7, 0)), handed(first_table(2), 0, 7))
        self.assertTold(((0, 7), (-7, 0)), handed(first_table(2), 1, -7))

    def test_small_hands_passing_by_passing(self):
        for ride in sample_rides():
            many = len(ride)
            for rider in sorted({0, many // 2, many - 1}):
                for size in sorted({0, 1, 2, many - 2, many - 1, many, 2 * many - 2, 3 * many}):
                    for hand in (size, -size):
                        expected = model_book(model_handed(ride, rider, hand))
                        self.assertTold(expected, handed(model_book(ride), rider, hand))

    def test_against_passed_one_behind_the_other(self):
        for ride in sample_rides():
            for rider in range(len(ride) if len(ride) > 1 else 0):
                sprinted = stopped = model_book(ride)
                for size in range(1, 5):
                    sprinted = passed(sprinted, rider, behind(sprinted, rider)[-1])
                    stopped = passed(stopped, behind(stopped, rider)[0], rider)
                    self.assertTold(sprinted, handed(model_book(ride), rider, size))
                    self.assertTold(stopped, handed(model_book(ride), rider, -size))

    def test_rounds_at_once_and_far(self):
        for ride in sample_rides():
            many = len(ride)
            for rider in sorted({0, many - 1}) if many > 1 else ():
                for rounds in (1, 7, 10 ** 10, FAR_NUMBER // (many - 1), FAR_NUMBER):
                    for rest in sorted({0, 1, many - 2}):
                        for sign in (1, -1):
                            near = model_book(model_handed(ride, rider, sign * rest))
                            told = handed(model_book(ride), rider, sign * (rounds * (many - 1) + rest))
                            self.assertTold(with_rounds(near, rider, sign * rounds), told)

    def test_far_of_two(self):
        book = ((0, FAR_NUMBER), (-FAR_NUMBER, 0))
        self.assertTold(book, handed(first_table(2), 0, FAR_NUMBER))
        self.assertTold(first_table(2), handed(book, 0, -FAR_NUMBER))
        self.assertTold(first_table(2), handed(book, 1, FAR_NUMBER))

    def test_nothing(self):
        for ride in sample_rides():
            for rider in range(len(ride)):
                self.assertTold(model_book(ride), handed(model_book(ride), rider, 0))

    def test_one_rider_alone(self):
        for many in (-FAR_NUMBER, -2, -1, 0, 1, 2, FAR_NUMBER):
            self.assertTold(((0,),), handed(((0,),), 0, many))

    def test_hand_and_back(self):
        for ride in sample_rides():
            for many in (1, 5, 40, FAR_NUMBER):
                book = model_book(ride)
                self.assertTold(book, handed(handed(book, len(ride) - 1, many), len(ride) - 1, -many))

    def test_asking(self):
        for ride in sample_rides():
            for many in (3, -3, 0, FAR_NUMBER):
                self.check_asking(handed, book=model_book(ride), rider=0, many=many)


class HandedAll(unittest.TestCase, Asking):
    def test_none_and_one(self):
        for ride in sample_rides():
            book = model_book(ride)
            self.assertTold(book, handed_all(book, []))
            self.assertTold(book, handed_all(book, ()))
            for hand in ((0, 3), (len(ride) - 1, -4), (0, 0), (0, -FAR_NUMBER)):
                self.assertTold(handed(book, hand[0], hand[1]), handed_all(book, [hand]))

    def test_written_out(self):
        self.assertTold(((0, 3), (-3, 0)), handed_all(first_table(2), [(0, 5), (1, 4), (0, 0), (1, -2)]))
        self.assertTold(table_from(3, {(0, 2): 1, (0, 1): 1, (1, 2): 0}), handed_all(first_table(3), [(0, 1), (1, -1)]))
        self.assertTold(((0,),), handed_all(((0,),), [(0, 5), (0, -7), (0, 0)]))

    def test_several_passing_by_passing(self):
        source = random.Random(2)
        for ride in sample_rides():
            row = hands_of(source, len(ride), 6, 2 * len(ride))
            beyond = ride
            for rider, many in row:
                beyond = model_handed(beyond, rider, many)
            self.assertTold(model_book(beyond), handed_all(model_book(ride), row))
            self.assertTold(model_book(beyond), handed_all(model_book(ride), tuple(row)))

    def test_far_rows_of_24_and_more(self):
        source = random.Random(3)
        for many in (2, 3, 7, 12):
            for length in (24, 30):
                row = hands_of(source, many, length, FAR_NUMBER)
                book = model_book(random_ride(source, many, FAR_NUMBER))
                expected = book
                for rider, size in row:
                    expected = handed(expected, rider, size)
                self.assertTold(expected, handed_all(book, row))
                back = [(rider, -size) for rider, size in row[::-1]]
                self.assertTold(book, handed_all(expected, back))

    def test_asking(self):
        source = random.Random(4)
        for ride in sample_rides():
            row = hands_of(source, len(ride), 4, 9)
            self.check_asking(handed_all, book=model_book(ride), row=row)
            self.check_asking(handed_all, book=model_book(ride), row=tuple(row))


if __name__ == "__main__":
    unittest.main()
