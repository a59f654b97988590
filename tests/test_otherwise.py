import itertools
import random
import unittest

from tallyring.agreeing import agreeing
from tallyring.errors import Alone
from tallyring.fewest import apart, is_between
from tallyring.hands import handed
from tallyring.otherwise import left_out, mirrored, numbered, put_in
from tallyring.passing import next_pairs, passed
from tallyring.rides import behind
from tallyring.stops import sprints, stops
from tallyring.tables import first_table
from tests.helpers import (
    FAR_NUMBER, Asking, first_ride, loose_book, model_book, random_ride, sample_pairs, sample_rides, table_from,
    unfit_triples,
)


def without(places, rider):
    return [place for at, place in enumerate(places) if at != rider]


def orders_of(many, source, count):
    """Each order of few riders, some of many."""
    if many <= 4:
        return list(itertools.permutations(range(many)))
    return [tuple(source.sample(range(many), many)) for _ in range(count)]


def contrary(order):
    return tuple(order.index(rider) for rider in range(len(order)))


class LeftOut(unittest.TestCase, Asking):
    def test_written_out(self):
        book = table_from(3, {(0, 1): 1, (0, 2): 3, (1, 2): 1})
        self.assertTold(((0, 1), (-1, 0)), left_out(book, 0))
        self.assertTold(((0, 3), (-3, 0)), left_out(book, 1))
        self.assertTold(((0, 1), (-1, 0)), left_out(book, 2))
        self.assertTold(((0,),), left_out(((0, 5), (-5, 0)), 0))

    def test_each_rider_by_places(self):
        for ride in sample_rides():
            for rider in range(len(ride)) if len(ride) > 1 else ():
                told = left_out(model_book(ride), rider)
                # The others stand where they stood, on a ring as wide.
                self.assertTold(loose_book(without(ride, rider), len(ride)), told)
                self.assertEqual(unfit_triples(told), [])

    def test_alone(self):
        with self.assertRaises(Alone) as caught:
            left_out(((0,),), 0)
        self.assertEqual(vars(caught.exception), {})
        with self.assertRaises(Alone):
            left_out(rider=0, book=first_table(1))

    def test_one_behind_the_other_till_one_is_alone(self):
        for ride in sample_rides():
            book = model_book(ride)
            places = list(ride)
            while len(places) > 1:
                rider = len(places) // 3
                places = without(places, rider)
                book = left_out(book, rider)
                self.assertTold(loose_book(places, len(ride)), book)
            with self.assertRaises(Alone):
                left_out(book, 0)

    def test_a_way_without_one_is_one_of_the_others(self):
        for one, other in sample_pairs():
            books = (model_book(one), model_book(other))
            for rider in range(len(one)) if len(one) > 1 else ():
                own = sum(abs(books[0][rider][j] - books[1][rider][j]) for j in range(len(one)))
                less = [left_out(book, rider) for book in books]
                self.assertEqual(apart(books[0], books[1]) - own, apart(less[0], less[1]))

    def test_asking(self):
        for ride in sample_rides():
            if len(ride) > 1:
                self.check_asking(left_out, book=model_book(ride), rider=len(ride) - 1)


class PutIn(unittest.TestCase, Asking):
    def test_written_out(self):
        self.assertTold(((0, 0), (0, 0)), put_in(((0,),), 0))
        self.assertTold(table_from(3, {(1, 2): -1}), put_in(first_table(2), 0))
        self.assertTold(first_table(3), put_in(first_table(2), 1))
        self.assertTold(table_from(3, {(0, 1): 5, (0, 2): 0, (1, 2): -6}), put_in(((0, 5), (-5, 0)), 0))
        self.assertTold(table_from(3, {(0, 1): 5, (0, 2): 5, (1, 2): 0}), put_in(((0, 5), (-5, 0)), 1))

    def test_behind_each_rider_by_places(self):
        for ride in sample_rides():
            for rider in range(len(ride)):
                told = put_in(model_book(ride), rider)
                wide = [2 * place for place in ride] + [2 * ride[rider] - 1]
                self.assertTold(loose_book(wide, 2 * len(ride)), told)
                self.assertEqual(unfit_triples(told), [])

    def test_next_behind_and_left_out_again(self):
        for ride in sample_rides():
            book = model_book(ride)
            for rider in range(len(ride)):
                told = put_in(book, rider)
                self.assertTold(book, left_out(told, len(ride)))
                self.assertEqual(behind(told, rider), [len(ride)] + behind(book, rider))
                self.assertEqual([pair for pair in next_pairs(told) if pair[1] == rider], [(len(ride), rider)])
                # Whom it stands next behind may be left out, and it stands there itself, with the last number.
                others = [one for one in range(len(ride)) if one != rider]
                self.assertTold(numbered(book, (*others, rider)), left_out(told, rider))

    def test_several(self):
        book = ((0,),)
        for many in range(1, 14):
            self.assertTold(first_table(many), book)
            book = put_in(book, many - 1)

    def test_asking(self):
        for ride in sample_rides():
            self.check_asking(put_in, book=model_book(ride), rider=len(ride) - 1)


class Mirrored(unittest.TestCase, Asking):
    def test_written_out(self):
        self.assertTold(((0,),), mirrored(((0,),)))
        self.assertTold(((0, 5), (-5, 0)), mirrored(((0, 5), (-5, 0))))
        book = table_from(3, {(0, 1): 1, (0, 2): 4, (1, 2): 2})
        self.assertTold(table_from(3, {(0, 1): 2, (0, 2): 4, (1, 2): 1}), mirrored(book))

    def test_by_places(self):
        for ride in sample_rides():
            told = mirrored(model_book(ride))
            self.assertTold(model_book(tuple(-place for place in ride[::-1])), told)
            self.assertEqual(unfit_triples(told), [])
            last = len(ride) - 1
            self.assertEqual(behind(told, 0), [last - rider for rider in behind(model_book(ride), last)[::-1]])

    def test_twice(self):
        for ride in sample_rides():
            self.assertTold(model_book(ride), mirrored(mirrored(model_book(ride))))

    def test_first(self):
        for many in range(1, 14):
            self.assertTold(first_table(many), mirrored(first_table(many)))

    def test_passings_stops_and_sprints_turned_about(self):
        for one, other in sample_pairs():
            last = len(one) - 1
            book, end = model_book(one), model_book(other)
            self.assertEqual(apart(book, end), apart(mirrored(book), mirrored(end)))
            self.assertEqual(stops(mirrored(book), mirrored(end)), sorted(last - i for i in sprints(book, end)))
            pairs = next_pairs(book)
            self.assertEqual(sorted((last - j, last - i) for i, j in pairs), next_pairs(mirrored(book)))
            for i, j in pairs:
                self.assertTold(mirrored(passed(book, i, j)), passed(mirrored(book), last - j, last - i))
            for many in (1, -4, 9, FAR_NUMBER):
                self.assertTold(mirrored(handed(book, 0, many)), handed(mirrored(book), last, -many))

    def test_asking(self):
        for ride in sample_rides():
            self.check_asking(mirrored, book=model_book(ride))


class Numbered(unittest.TestCase, Asking):
    def test_written_out(self):
        self.assertTold(((0,),), numbered(((0,),), (0,)))
        self.assertTold(((0, 5), (-5, 0)), numbered(((0, 5), (-5, 0)), (0, 1)))
        self.assertTold(((0, -6), (6, 0)), numbered(((0, 5), (-5, 0)), (1, 0)))
        book = table_from(3, {(0, 1): 1, (0, 2): 3, (1, 2): 1})
        self.assertTold(table_from(3, {(0, 1): 1, (0, 2): -2, (1, 2): -4}), numbered(book, (1, 2, 0)))

    def test_by_places(self):
        source = random.Random(71)
        for ride in sample_rides():
            for order in orders_of(len(ride), source, 6):
                told = numbered(model_book(ride), order)
                self.assertTold(model_book(tuple(ride[rider] for rider in order)), told)
                self.assertEqual(unfit_triples(told), [])

    def test_as_they_stand(self):
        for many in range(1, 14):
            self.assertTold(first_table(many), numbered(first_table(many), tuple(range(many))))

    def test_first_where_they_stood_so(self):
        source = random.Random(73)
        for many in range(1, 13):
            for order in orders_of(many, source, 10):
                # Riders who stand so within one round have, numbered so, come by nobody.
                places = [0] * many
                for at, rider in enumerate(order):
                    places[rider] = -at
                self.assertTold(first_table(many), numbered(model_book(tuple(places)), order))

    def test_and_by_the_contrary_order(self):
        source = random.Random(79)
        for ride in sample_rides():
            book = model_book(ride)
            for order in orders_of(len(ride), source, 6):
                self.assertTold(book, numbered(numbered(book, order), contrary(order)))
                self.assertTold(book, numbered(numbered(book, contrary(order)), order))

    def test_two_orders_one_behind_the_other(self):
        source = random.Random(83)
        rides = [first_ride(3), random_ride(source, 3, 2), random_ride(source, 8, 4), random_ride(source, 12, 10 ** 9)]
        for ride in rides:
            book = model_book(ride)
            for one, other in itertools.product(orders_of(len(ride), source, 5), repeat=2):
                both = tuple(one[rider] for rider in other)
                self.assertTold(numbered(book, both), numbered(numbered(book, one), other))

    def test_the_other_sentences_are_told_of_the_same_riders(self):
        source = random.Random(89)
        for one, other in sample_pairs():
            book, end = model_book(one), model_book(other)
            for order in orders_of(len(one), source, 3)[-3:]:
                number = contrary(order)
                told, told_end = numbered(book, order), numbered(end, order)
                self.assertEqual(apart(book, end), apart(told, told_end))
                self.assertEqual(sorted(number[rider] for rider in stops(book, end)), stops(told, told_end))
                self.assertEqual(sorted((number[i], number[j]) for i, j in next_pairs(book)), next_pairs(told))
                self.assertEqual(len(agreeing(book, end)), len(agreeing(told, told_end)))
                self.assertTold(numbered(handed(book, 0, 5), order), handed(told, number[0], 5))

    def test_asking(self):
        source = random.Random(97)
        for ride in sample_rides():
            for order in orders_of(len(ride), source, 1)[-1:]:
                self.check_asking(numbered, book=model_book(ride), order=order)


class BetweenStaysBetween(unittest.TestCase):
    def test_told_otherwise(self):
        source = random.Random(101)
        for many in (2, 3, 5, 8):
            for _ in range(20):
                one = random_ride(source, many, 1)
                books = [model_book(one)]
                for _ in range(6):
                    pair = source.choice(next_pairs(books[-1]))
                    books.append(passed(books[-1], *pair))
                for at, book in enumerate(books):
                    between = is_between(books[0], books[-1], book)
                    order = tuple(source.sample(range(many), many))
                    for told in (mirrored, lambda each: numbered(each, order)):
                        self.assertIs(is_between(told(books[0]), told(books[-1]), told(book)), between)


if __name__ == "__main__":
    unittest.main()
