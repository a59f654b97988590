import random
import unittest

from tallyring.errors import NotNext
from tallyring.passing import next_pairs, passed, passed_all
from tallyring.tables import first_table
from tests.helpers import (
    FAR_NUMBER, Asking, first_ride, model_book, model_next, model_passed, sample_rides, table_from, walked,
)


class NextPairs(unittest.TestCase, Asking):
    def test_written_out(self):
        self.assertTold([], next_pairs(((0,),)))
        self.assertTold([(0, 1), (1, 0)], next_pairs(((0, 0), (0, 0))))
        self.assertTold([(0, 1), (1, 0)], next_pairs(((0, -8), (8, 0))))
        self.assertTold([(0, 2), (1, 0), (2, 1)], next_pairs(first_table(3)))
        self.assertTold([(0, 3), (1, 0), (2, 1), (3, 2)], next_pairs(first_table(4)))
        self.assertTold([(0, 1), (1, 2), (2, 0)], next_pairs(model_book((7, -4, 3))))

    def test_by_places(self):
        for ride in sample_rides():
            told = next_pairs(model_book(ride))
            self.assertTold(model_next(ride), told)
            self.assertEqual(len(told), len(ride) if len(ride) > 1 else 0)

    def test_asking(self):
        for ride in sample_rides():
            self.check_asking(next_pairs, book=model_book(ride))


class Passed(unittest.TestCase, Asking):
    def test_written_out(self):
        self.assertTold(((0, 1), (-1, 0)), passed(first_table(2), 0, 1))
        self.assertTold(((0, -1), (1, 0)), passed(first_table(2), 1, 0))
        self.assertTold(table_from(3, {(0, 2): 1}), passed(first_table(3), 0, 2))
        self.assertTold(table_from(3, {(1, 2): -1}), passed(first_table(3), 2, 1))

    def test_one_tally_is_1_more_no_other_another(self):
        for ride in sample_rides():
            book = model_book(ride)
            for i, j in model_next(ride):
                rows = [list(row) for row in book]
                rows[i][j] += 1
                rows[j][i] -= 1
                expected = tuple(tuple(row) for row in rows)
                self.assertTold(expected, passed(book, i, j))
                self.assertEqual(model_book(model_passed(ride, (i, j))), expected)

    def test_any_other_pair_is_refused(self):
        for ride in sample_rides():
            many = len(ride)
            for i in range(-many, many + 1):
                for j in range(-many, many + 1):
                    if (i, j) not in model_next(ride):
                        self.check_refused(model_book(ride), i, j)

    def check_refused(self, book, i, j):
        with self.assertRaises(NotNext) as caught:
            passed(book, i, j)
        self.assertTold((i, j), (caught.exception.one, caught.exception.other))

    def test_one_rider_and_itself(self):
        self.check_refused(((0,),), 0, 0)
        self.check_refused(first_table(2), 0, 0)
        self.check_refused(first_table(2), 1, 1)
        self.check_refused(first_table(5), 4, 4)

    def test_two_ahead_and_next_ahead_are_refused(self):
        self.check_refused(first_table(3), 0, 1)
        self.check_refused(first_table(4), 2, 0)
        self.check_refused(first_table(4), 3, 1)

    def test_asking(self):
        for ride in sample_rides():
            for i, j in model_next(ride)[:2]:
                self.check_asking(passed, book=model_book(ride), one=i, other=j)
        with self.assertRaises(NotNext):
            passed(other=1, one=0, book=first_table(3))


class PassedAll(unittest.TestCase, Asking):
    def test_written_out(self):
        self.assertTold(table_from(3, {(0, 1): 1, (0, 2): 1}), passed_all(first_table(3), [(0, 2), (0, 1)]))
        self.assertTold(((0, 200), (-200, 0)), passed_all(first_table(2), [(0, 1)] * 200))

    def test_empty_row(self):
        for ride in sample_rides():
            self.assertTold(model_book(ride), passed_all(model_book(ride), []))
            self.assertTold(model_book(ride), passed_all(model_book(ride), ()))

    def test_rows_to_200_and_more(self):
        for seed, ride in enumerate(sample_rides()):
            for steps in (1, 3, 40, 200, 230) if len(ride) > 1 else (0,):
                row, beyond = walked(random.Random(seed), ride, steps)
                self.assertTold(model_book(beyond), passed_all(model_book(ride), row))
                self.assertTold(model_book(beyond), passed_all(model_book(ride), tuple(row)))

    def test_first_that_cannot_be_is_refused(self):
        for seed, ride in enumerate(sample_rides()):
            row, beyond = walked(random.Random(seed), ride, 7 if len(ride) > 1 else 0)
            wrong = [pair for pair in self.all_pairs(len(ride)) if pair not in model_next(beyond)]
            for first in wrong[:4] + wrong[-4:]:
                self.check_refused(model_book(ride), row + [first], first)
                for rest in (row, [(0, 0)], [first], wrong[::-1]):
                    self.check_refused(model_book(ride), row + [first] + rest, first)

    def all_pairs(self, many):
        return [(i, j) for i in range(-1, many + 1) for j in range(-1, many + 1)]

    def check_refused(self, book, row, first):
        with self.assertRaises(NotNext) as caught:
            passed_all(book, row)
        self.assertTold(first, (caught.exception.one, caught.exception.other))

    def test_what_could_be_first_but_not_then(self):
        self.check_refused(first_table(3), [(0, 2), (2, 1)], (2, 1))
        self.check_refused(first_table(3), [(0, 2), (0, 2)], (0, 2))
        self.check_refused(first_table(3), [(2, 1), (2, 1)], (2, 1))

    def test_far(self):
        many = 5
        ride = tuple(place + many * FAR_NUMBER * (at % 2) for at, place in enumerate(first_ride(many)))
        row, beyond = walked(random.Random(1), ride, 150)
        self.assertTold(model_book(beyond), passed_all(model_book(ride), row))

    def test_asking(self):
        for seed, ride in enumerate(sample_rides()):
            row, beyond = walked(random.Random(seed), ride, 9 if len(ride) > 1 else 0)
            self.check_asking(passed_all, book=model_book(ride), row=row)

    def test_refused_row_stays_as_it_was(self):
        row = [(0, 2), (2, 1), (0, 0)]
        with self.assertRaises(NotNext):
            passed_all(first_table(3), row)
        self.assertTold([(0, 2), (2, 1), (0, 0)], row)


if __name__ == "__main__":
    unittest.main()
