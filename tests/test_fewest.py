import random
import unittest

from tallyring.errors import TooFar
from tallyring.fewest import apart, is_between, least_way, needs, shows_way, ways_many
from tallyring.tables import first_table, is_book
from tests.helpers import (
    FAR_NUMBER, STRANGE, Asking, all_tables, all_ways, distances, first_ride, model_apart, model_book, model_next,
    model_passed, nearer_walk, other_kinds, other_lengths, random_ride, sample_pairs, sample_rides, small_pairs,
    table_from,
)


class ApartAndNeeds(unittest.TestCase, Asking):
    def test_written_out(self):
        first = first_table(3)
        book = model_book((7, -4, 3))
        self.assertTold(7, apart(first, book))
        self.assertTold([(0, 1, 3), (0, 2, 1), (2, 1, 3)], needs(first, book))
        self.assertTold([(1, 0, 3), (1, 2, 3), (2, 0, 1)], needs(book, first))
        self.assertTold(2 * FAR_NUMBER, apart(((0, FAR_NUMBER), (-FAR_NUMBER, 0)), ((0, -FAR_NUMBER), (FAR_NUMBER, 0))))

    def test_differences_of_all_tallies(self):
        for one, other in sample_pairs():
            one, other = model_book(one), model_book(other)
            self.assertTold(model_apart(one, other), apart(one, other))
            self.assertTold(model_apart(one, other), apart(other, one))

    def test_book_and_itself(self):
        for ride in sample_rides():
            self.assertTold(0, apart(model_book(ride), model_book(ride)))
            self.assertTold([], needs(model_book(ride), model_book(ride)))

    def test_as_few_passings_as_all_gone_through(self):
        for many, depth in ((2, 9), (3, 9), (4, 6), (5, 5)):
            for start in (first_ride(many), random_ride(random.Random(many), many, 3)):
                for book, (far, ride) in distances(start, depth).items():
                    self.assertEqual(far, apart(model_book(start), book))
                    self.assertEqual(far, apart(book, model_book(start)))

    def test_needs_there_and_back(self):
        for one, other in sample_pairs():
            one, other = model_book(one), model_book(other)
            expected = []
            for i in range(len(one)):
                for j in range(len(one)):
                    if other[i][j] > one[i][j]:
                        expected.append((i, j, other[i][j] - one[i][j]))
            self.assertTold(expected, needs(one, other))
            self.assertTold(sorted((j, i, more) for i, j, more in expected), needs(other, one))

    def test_asking(self):
        for one, other in sample_pairs():
            for function in (apart, needs):
                self.check_asking(function, one=model_book(one), other=model_book(other))


class LeastWay(unittest.TestCase, Asking):
    def test_written_out(self):
        self.assertTold([], least_way(((0,),), ((0,),)))
        self.assertTold([(1, 0)] * 3, least_way(((0, 1), (-1, 0)), ((0, -2), (2, 0))))
        expected = [(0, 2), (0, 1), (2, 1), (0, 1), (2, 1), (0, 1), (2, 1)]
        self.assertTold(expected, least_way(first_table(3), model_book((7, -4, 3))))

    def test_book_and_itself(self):
        for ride in sample_rides():
            self.assertTold([], least_way(model_book(ride), model_book(ride)))

    def test_least_of_all_gone_through(self):
        for start, book, far, ride in small_pairs():
            self.assertTold(min(all_ways(start, book, far)), least_way(model_book(start), book))
            self.assertTold(min(all_ways(ride, model_book(start), far)), least_way(book, model_book(start)))

    def test_each_tally_goes_one_way_only(self):
        for start, book, far, ride in small_pairs():
            for way in all_ways(start, book, far):
                self.assertFalse({(i, j) for i, j in way} & {(j, i) for i, j in way})

    def test_just_200_and_201(self):
        start = first_ride(2)
        for by in (1, -1):
            book = ((0, 200 * by), (-200 * by, 0))
            self.assertTold([(0, 1) if by == 1 else (1, 0)] * 200, least_way(first_table(2), book))
            self.check_too_far(first_table(2), ((0, 201 * by), (-201 * by, 0)), 201)
        for many in (3, 4, 7, 12):
            start = first_ride(many)
            source = random.Random(many)
            target = model_book(random_ride(source, many, 900))
            rides = self.rides_on(start, target, 201)
            told = least_way(model_book(start), model_book(rides[200]))
            self.assertEqual(len(told), 200)
            self.assertIs(shows_way(model_book(start), model_book(rides[200]), told), True)
            self.check_least_steps(start, model_book(rides[200]), told)
            self.check_too_far(model_book(start), model_book(rides[201]), 201)
            self.check_too_far(model_book(rides[201]), model_book(start), 201)

    def rides_on(self, ride, target, steps):
        rides = [ride]
        for _ in range(steps):
            book = model_book(rides[-1])
            pair = [(i, j) for i, j in model_next(rides[-1]) if target[i][j] > book[i][j]][-1]
            rides.append(model_passed(rides[-1], pair))
        return rides

    def check_least_steps(self, ride, target, way):
        for pair in way:
            book = model_book(ride)
            self.assertEqual(pair, min((i, j) for i, j in model_next(ride) if target[i][j] > book[i][j]))
            ride = model_passed(ride, pair)

    def check_too_far(self, one, other, far):
        with self.assertRaises(TooFar) as caught:
            least_way(one, other)
        self.assertTold(far, caught.exception.apart)

    def test_far(self):
        self.check_too_far(first_table(2), ((0, FAR_NUMBER), (-FAR_NUMBER, 0)), FAR_NUMBER)
        for one, other in sample_pairs():
            one, other = model_book(one), model_book(other)
            if model_apart(one, other) > 200:
                self.check_too_far(one, other, model_apart(one, other))

    def test_far_from_the_first_near_one_another(self):
        start = random_ride(random.Random(3), 6, FAR_NUMBER)
        for book, (far, ride) in sorted(distances(start, 3).items())[::9]:
            self.assertTold(min(all_ways(start, book, far)), least_way(model_book(start), book))

    def test_asking(self):
        for start, book, far, ride in small_pairs():
            self.check_asking(least_way, one=model_book(start), other=book)
        with self.assertRaises(TooFar):
            least_way(other=first_table(2), one=((0, 201), (-201, 0)))


class IsBetween(unittest.TestCase, Asking):
    def test_both_ends(self):
        for one, other in sample_pairs():
            one, other = model_book(one), model_book(other)
            self.assertIs(is_between(one, other, one), True)
            self.assertIs(is_between(one, other, other), True)
            self.assertIs(is_between(one, one, one), True)
            self.assertIs(is_between(one, one, other), one == other)

    def test_against_all_ways(self):
        for start, book, far, ride in small_pairs():
            if far > 5:
                continue
            on_ways = set()
            for way in all_ways(start, book, far):
                at = start
                on_ways.add(model_book(at))
                for pair in way:
                    at = model_passed(at, pair)
                    on_ways.add(model_book(at))
            for near in distances(start, 3):
                self.assertIs(is_between(model_book(start), book, near), near in on_ways)
                self.assertIs(is_between(book, model_book(start), near), near in on_ways)
            for near in on_ways:
                self.assertIs(is_between(model_book(start), book, near), True)

    def test_beyond_an_end(self):
        first = first_table(2)
        book = ((0, 5), (-5, 0))
        told = [tally for tally in range(-3, 9) if is_between(first, book, ((0, tally), (-tally, 0)))]
        self.assertEqual(told, [0, 1, 2, 3, 4, 5])

    def test_far(self):
        first = first_table(2)
        book = ((0, FAR_NUMBER), (-FAR_NUMBER, 0))
        for tally, expected in ((-1, False), (0, True), (FAR_NUMBER // 3, True), (FAR_NUMBER + 1, False)):
            self.assertIs(is_between(first, book, ((0, tally), (-tally, 0))), expected)

    def test_table_between_that_is_no_book(self):
        one = first_table(3)
        other = table_from(3, {(0, 1): 1, (0, 2): 2, (1, 2): 1})
        self.assertIs(is_book(other), True)
        for table in all_tables(3, 0, 2):
            inside = all(0 <= table[i][j] <= other[i][j] for i, j in ((0, 1), (0, 2), (1, 2)))
            self.assertIs(is_between(one, other, table), inside and is_book(table))
        self.assertIs(is_between(one, other, table_from(3, {(0, 1): 1})), False)

    def test_books_of_other_riders(self):
        self.assertIs(is_between(first_table(3), first_table(3), first_table(2)), False)
        self.assertIs(is_between(first_table(3), first_table(3), first_table(4)), False)
        self.assertIs(is_between(first_table(3), first_table(3), first_table(1)), False)
        self.assertIs(is_between(first_table(1), first_table(1), first_table(2)), False)

    def test_other_things(self):
        one = first_table(3)
        other = table_from(3, {(0, 1): 1, (0, 2): 1})
        self.assertIs(is_between(one, other, other), True)
        for thing in STRANGE + list(other_kinds(other)) + list(other_lengths(other)) + list(other_kinds(one)):
            self.assertIs(is_between(one, other, thing), False, repr(thing))

    def test_asking(self):
        for one, other in sample_pairs():
            self.check_asking(is_between, one=model_book(one), other=model_book(other), book=model_book(one))
        self.check_asking(is_between, one=first_table(2), other=first_table(2), book=[[0, 0], [0, 0]])


class WaysMany(unittest.TestCase, Asking):
    def test_written_out(self):
        self.assertTold(1, ways_many(((0,),), ((0,),)))
        self.assertTold(1, ways_many(first_table(2), ((0, 8), (-8, 0))))
        self.assertTold(4, ways_many(first_table(3), model_book((7, -4, 3))))

    def test_book_and_itself(self):
        for ride in sample_rides():
            self.assertTold(1, ways_many(model_book(ride), model_book(ride)))

    def test_against_all_gone_through(self):
        for start, book, far, ride in small_pairs():
            self.assertTold(len(all_ways(start, book, far)), ways_many(model_book(start), book))
            self.assertTold(len(all_ways(start, book, far)), ways_many(book, model_book(start)))

    def test_six_riders_eight_apart(self):
        source = random.Random(4)
        for seed in range(6):
            start = random_ride(source, 6, 2)
            target = model_book(random_ride(source, 6, 40))
            way, rides = nearer_walk(start, target, source)
            book = model_book(rides[8])
            self.assertTold(len(all_ways(start, book, 8)), ways_many(model_book(start), book))

    def test_no_two_riders_in_common(self):
        ride = first_ride(8)
        for pair in ((1, 0), (3, 2), (5, 4), (7, 6)):
            ride = model_passed(ride, pair)
        self.assertTold(24, ways_many(first_table(8), model_book(ride)))

    def test_asking(self):
        for start, book, far, ride in small_pairs():
            self.check_asking(ways_many, one=model_book(start), other=book)


class ShowsWay(unittest.TestCase, Asking):
    def test_all_fewest_ways(self):
        for start, book, far, ride in small_pairs():
            for way in all_ways(start, book, far)[:30]:
                self.assertIs(shows_way(model_book(start), book, way), True)
                self.assertIs(shows_way(book, model_book(start), way), far == 0)

    def test_all_rows_of_pairs(self):
        start = first_ride(3)
        for book, (far, ride) in distances(start, 3).items():
            ways = all_ways(start, book, far)
            for row in self.all_rows(3, far):
                self.assertIs(shows_way(model_book(start), book, row), row in ways)

    def all_rows(self, many, length):
        if length == 0:
            return [[]]
        pairs = [(i, j) for i in range(-1, many) for j in range(many) if i != j]
        return [row + [pair] for row in self.all_rows(many, length - 1) for pair in pairs]

    def test_too_short_and_too_long(self):
        for start, book, far, ride in small_pairs():
            way = all_ways(start, book, far)[-1]
            for at in range(len(way)):
                self.assertIs(shows_way(model_book(start), book, way[:at]), False)
            for pair in model_next(ride):
                self.assertIs(shows_way(model_book(start), book, way + [pair]), False)
                there_and_back = way + [pair, (pair[1], pair[0])]
                self.assertIs(shows_way(model_book(start), book, there_and_back), False)

    def test_as_long_but_elsewhere(self):
        for start, book, far, ride in small_pairs():
            for other, (other_far, other_ride) in distances(start, 2).items():
                if other_far == far and other != book:
                    for way in all_ways(start, other, far):
                        self.assertIs(shows_way(model_book(start), book, way), False)

    def test_passing_that_cannot_be(self):
        start = first_ride(3)
        book = model_book((7, -4, 3))
        way = [(0, 2), (0, 1), (2, 1), (0, 1), (2, 1), (0, 1), (2, 1)]
        self.assertIs(shows_way(model_book(start), book, way), True)
        for at in range(7):
            for pair in ((0, 0), (1, 0), (1, 2), (2, 0), (-1, 1), (0, -1), (3, 1), (0, 3), (FAR_NUMBER, 0)):
                self.assertIs(shows_way(model_book(start), book, way[:at] + [pair] + way[at + 1:]), False)
        self.assertIs(shows_way(model_book(start), book, sorted(way)), False)

    def test_other_things(self):
        for start, book, way in (
            (first_ride(2), ((0, 1), (-1, 0)), [(0, 1)]),
            (first_ride(3), table_from(3, {(0, 1): 1, (0, 2): 1}), [(0, 2), (0, 1)]),
        ):
            self.assertIs(shows_way(model_book(start), book, way), True)
            for thing in STRANGE + list(other_kinds(way)) + list(other_lengths(way)):
                self.assertIs(shows_way(model_book(start), book, thing), False, repr(thing))

    def test_empty_way(self):
        for ride in sample_rides():
            book = model_book(ride)
            self.assertIs(shows_way(book, book, []), True)
            for thing in ((), None, False, 0, "", [()], [[]], [(0, 1)], [(0, 0)]):
                self.assertIs(shows_way(book, book, thing), False, repr(thing))

    def test_however_long(self):
        way = [(0, 1)] * 3000
        book = ((0, 3000), (-3000, 0))
        self.assertIs(shows_way(first_table(2), book, way), True)
        self.assertIs(shows_way(first_table(2), book, way + [(0, 1)]), False)
        self.assertIs(shows_way(first_table(2), book, way[:-1] + [(1, 0)]), False)
        source = random.Random(6)
        for many in (3, 5, 12):
            start = first_ride(many)
            target = model_book(random_ride(source, many, 40))
            way, rides = nearer_walk(start, target, source)
            self.assertGreater(len(way), 40)
            self.assertIs(shows_way(model_book(start), target, way), True)
            self.assertIs(shows_way(model_book(start), target, way[:-1]), False)
            self.assertIs(shows_way(model_book(start), target, way[::-1]), False)

    def test_far(self):
        first = first_table(2)
        self.assertIs(shows_way(first, ((0, FAR_NUMBER), (-FAR_NUMBER, 0)), [(0, 1)] * 9), False)
        one = ((0, FAR_NUMBER), (-FAR_NUMBER, 0))
        other = ((0, FAR_NUMBER + 2), (-FAR_NUMBER - 2, 0))
        self.assertIs(shows_way(one, other, [(0, 1)] * 2), True)
        self.assertIs(shows_way(other, one, [(0, 1)] * 2), False)

    def test_asking(self):
        for start, book, far, ride in small_pairs():
            for way in all_ways(start, book, far)[:2]:
                self.check_asking(shows_way, one=model_book(start), other=book, thing=way)
        for thing in ([[0, 1]], [(0, 1)], ((0, 1),), [(1, 0)], None):
            self.check_asking(shows_way, one=first_table(2), other=((0, 1), (-1, 0)), thing=thing)


if __name__ == "__main__":
    unittest.main()
