import itertools
import random
import unittest

from tallyring.errors import NotThese
from tallyring.hands import handed_all
from tallyring.stops import sprint_row, sprints, stop_row, stops
from tallyring.tables import first_table
from tests.helpers import (
    FAR_NUMBER, Asking, distances, first_ride, is_int, loosely_moved_pairs, model_book, model_handed, random_ride,
    sample_pairs, small_pairs, table_from,
)


def model_stops(one, other):
    riders = range(len(one))
    return [j for j in riders if any(other[i][j] > one[i][j] for i in riders)]


def model_sprints(one, other):
    riders = range(len(one))
    return [i for i in riders if any(other[i][j] > one[i][j] for j in riders)]


def all_pairs():
    """Pairs of books, near and far, both ways about."""
    found = [(model_book(one), model_book(other)) for one, other in sample_pairs()]
    found += [(model_book(start), book) for start, book, far, ride in small_pairs()]
    found += list(loosely_moved_pairs())
    source = random.Random(11)
    for many in (2, 3, 5, 12):
        for _ in range(4):
            found.append(tuple(model_book(random_ride(source, many, 10 ** 10)) for _ in range(2)))
    return found + [(other, one) for one, other in found]


def orders(riders, source):
    """All orders of few riders, some of many."""
    if len(riders) <= 3:
        return [list(order) for order in itertools.permutations(riders)]
    return [riders, riders[::-1]] + [source.sample(riders, len(riders)) for _ in range(4)]


def other_orders(riders, many):
    """Lists of riders that aren't just these."""
    for at, rider in enumerate(riders):
        yield riders[:at] + riders[at + 1:]
        yield riders[:at] + [rider] + riders[at:]
        for other in (-1, -many, rider - many, many, many + rider, FAR_NUMBER):
            yield riders[:at] + [other] + riders[at + 1:]
    for other in [-1, many] + [rider for rider in range(many) if rider not in riders]:
        yield riders + [other]
        yield [other] + riders


class StopsAndSprints(unittest.TestCase, Asking):
    def test_written_out(self):
        first = first_table(3)
        book = table_from(3, {(0, 1): 3, (0, 2): 1, (1, 2): -3})
        self.assertTold([1, 2], stops(first, book))
        self.assertTold([0, 2], sprints(first, book))
        self.assertTold([0, 2], stops(book, first))
        self.assertTold([1, 2], sprints(book, first))
        self.assertTold([1], stops(first_table(2), ((0, FAR_NUMBER), (-FAR_NUMBER, 0))))
        self.assertTold([0], sprints(first_table(2), ((0, FAR_NUMBER), (-FAR_NUMBER, 0))))

    def test_against_the_words(self):
        for one, other in all_pairs():
            self.assertTold(model_stops(one, other), stops(one, other))
            self.assertTold(model_sprints(one, other), sprints(one, other))

    def test_book_and_itself(self):
        for one, other in all_pairs():
            self.assertTold([], stops(one, one))
            self.assertTold([], sprints(one, one))
        self.assertTold([], stops(((0,),), ((0,),)))
        self.assertTold([], sprints(((0,),), ((0,),)))

    def test_no_fewer_lead_there(self):
        for many, size in ((2, 4), (3, 4), (4, 3)):
            start = first_ride(many)
            for told, sign in ((stops, -1), (sprints, 1)):
                by_hands = {model_book(start): 0}
                edge = [start]
                for count in range(1, many):
                    hands = itertools.product(edge, range(many), range(1, size + 1))
                    edge = [model_handed(ride, rider, sign * far) for ride, rider, far in hands]
                    for ride in edge:
                        by_hands.setdefault(model_book(ride), count)
                for book in distances(start, size):
                    self.assertLessEqual(len(told(model_book(start), book)), by_hands.get(book, many))
                    if book in by_hands:
                        self.assertEqual(by_hands[book], len(told(model_book(start), book)))

    def test_asking(self):
        for one, other in all_pairs():
            self.check_asking(stops, one=one, other=other)
            self.check_asking(sprints, one=one, other=other)


class Rows:
    """What holds of both rows: row, told and sign are those of stops or of sprints."""

    def check_row(self, one, other, order):
        row = self.row(one, other, order)
        self.assertIs(type(row), list)
        for hand in row:
            self.assertIs(type(hand), tuple)
            self.assertTrue(len(hand) == 2 and is_int(hand[0]) and is_int(hand[1]))
            self.assertGreater(hand[1] * self.sign, 0)
        self.assertEqual([rider for rider, many in row], list(order))
        self.assertTold(other, handed_all(one, row))

    def check_refused(self, one, other, order):
        with self.assertRaises(NotThese):
            self.row(one, other, order)

    def test_near_and_far_in_several_orders(self):
        source = random.Random(13)
        for one, other in all_pairs():
            for order in orders(self.told(one, other), source):
                self.check_row(one, other, order)

    def test_all_near_books(self):
        for many, depth in ((2, 6), (3, 6), (4, 4)):
            for start in (first_ride(many), random_ride(random.Random(many), many, 3)):
                for book in distances(start, depth):
                    for order in itertools.permutations(self.told(model_book(start), book)):
                        self.check_row(model_book(start), book, list(order))

    def test_row_passing_by_passing(self):
        for start, book, far, ride in small_pairs():
            at = start
            for rider, many in self.row(model_book(start), book, self.told(model_book(start), book)):
                at = model_handed(at, rider, many)
            self.assertEqual(model_book(at), book)

    def test_rider_come_by_several_times_by_the_same_one(self):
        for far in (2, 5, 10 ** 10, FAR_NUMBER):
            other = table_from(3, {(0, 1): far * self.sign, (0, 2): far * self.sign})
            self.check_row(first_table(3), other, self.told(first_table(3), other))
            self.check_row(other, first_table(3), self.told(other, first_table(3)))

    def test_book_and_itself(self):
        for one, other in all_pairs():
            self.assertTold([], self.row(one, one, []))
        self.assertTold([], self.row(((0,),), ((0,),), []))
        self.check_refused(((0,),), ((0,),), [0])
        self.check_refused(first_table(3), first_table(3), [1])

    def test_orders_that_are_not_just_these(self):
        for one, other in all_pairs()[::3]:
            riders = self.told(one, other)
            for order in other_orders(riders, len(one)):
                self.check_refused(one, other, order)
                self.check_refused(one, other, tuple(order))
            if riders:
                self.check_refused(one, other, [])

    def test_riders_of_the_other_sort_are_refused(self):
        other = table_from(3, {(0, 1): 3, (0, 2): 1, (1, 2): -3})
        for order in itertools.permutations(self.told(other, first_table(3))):
            self.check_refused(first_table(3), other, list(order))

    def test_asking(self):
        for one, other in all_pairs():
            order = self.told(one, other)[::-1]
            self.check_asking(self.row, one=one, other=other, order=order)
            self.assertTold(self.row(one, other, order), self.row(one, other, tuple(order)))
        order = [1, 2, 5]
        with self.assertRaises(NotThese):
            self.row(order=order, one=first_table(3), other=first_table(3))
        self.assertTold([1, 2, 5], order)


class StopRow(Rows, unittest.TestCase, Asking):
    row = staticmethod(stop_row)
    told = staticmethod(stops)
    sign = -1

    def test_written_out(self):
        self.assertTold([(1, -2)], stop_row(first_table(3), table_from(3, {(0, 1): 1, (1, 2): -1}), [1]))
        self.assertTold([(1, -4)], stop_row(first_table(2), ((0, 4), (-4, 0)), [1]))
        self.assertTold([(1, -FAR_NUMBER)], stop_row(first_table(2), ((0, FAR_NUMBER), (-FAR_NUMBER, 0)), [1]))


class SprintRow(Rows, unittest.TestCase, Asking):
    row = staticmethod(sprint_row)
    told = staticmethod(sprints)
    sign = 1

    def test_written_out(self):
        self.assertTold([(0, 2)], sprint_row(first_table(3), table_from(3, {(0, 1): 1, (0, 2): 1}), [0]))
        self.assertTold([(0, 4)], sprint_row(first_table(2), ((0, 4), (-4, 0)), [0]))
        self.assertTold([(1, FAR_NUMBER)], sprint_row(first_table(2), ((0, -FAR_NUMBER), (FAR_NUMBER, 0)), [1]))


if __name__ == "__main__":
    unittest.main()
