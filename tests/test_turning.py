import itertools
import random
import unittest

from tallyring.errors import NoTurn
from tallyring.passing import passed_all
from tallyring.turning import led_over, may_turn, shows_led, turned
from tests.helpers import (
    FAR_NUMBER, STRANGE, Asking, all_ways, first_ride, is_int, model_book, nearer_walk, one_otherwise, random_ride,
    small_pairs,
)

THREE = [(0, 1), (0, 2), (1, 2)]
THREE_ABOUT = [(1, 2), (0, 2), (0, 1)]


def model_turned(way, at):
    """The way turned at a place, by the document's words; None where there's no turn."""
    way = list(way)
    if not 0 <= at < len(way):
        return None
    if at + 1 < len(way) and not set(way[at]) & set(way[at + 1]):
        return way[:at] + [way[at + 1], way[at]] + way[at + 2:]
    riders = sorted({rider for pair in way[at:at + 3] for rider in pair})
    for i, j, l in itertools.permutations(riders, 3):
        for three in ([(i, j), (i, l), (j, l)], [(j, l), (i, l), (i, j)]):
            if way[at:at + 3] == three:
                return way[:at] + three[::-1] + way[at + 3:]
    return None


def model_led(way, places):
    for at in places:
        way = None if way is None else model_turned(way, at)
    return way


def model_shows_led(way, other, thing):
    if type(thing) is not list or not all(is_int(part) for part in thing):
        return False
    return model_led(list(way), thing) == list(other)


def small_ways():
    """Triples (ride, book, all fewest ways from the one to the other)."""
    for start, book, far, ride in small_pairs():
        yield start, book, all_ways(start, book, far)


def long_ways(many, length, count, seed):
    """Fewest ways, of just so many passings, between the same two books."""
    source = random.Random(seed)
    start = random_ride(source, many, 2)
    target = model_book(random_ride(source, many, 40))
    way, rides = nearer_walk(start, target, source)
    book = model_book(rides[length])
    return start, book, [way[:length]] + [nearer_walk(start, book, source)[0] for _ in range(count)]


class Turned(unittest.TestCase, Asking):
    def check_no_turn(self, way, at):
        with self.assertRaises(NoTurn) as caught:
            turned(way, at)
        self.assertTold(at, caught.exception.at)

    def check_as_model(self, way, at):
        expected = model_turned(way, at)
        if expected is None:
            self.check_no_turn(way, at)
        else:
            self.assertTold(expected, turned(way, at))
            self.assertTold(list(way), turned(expected, at))

    def test_two_without_a_rider_in_common(self):
        self.assertTold([(3, 2), (1, 0)], turned([(1, 0), (3, 2)], 0))
        self.assertTold([(5, 4), (3, 2), (1, 0)], turned([(5, 4), (1, 0), (3, 2)], 1))
        self.assertTold([(3, 2), (1, 0), (1, 3)], turned([(1, 0), (3, 2), (1, 3)], 0))

    def test_three_both_ways(self):
        for i, j, l in itertools.permutations(range(3)):
            one = [(i, j), (i, l), (j, l)]
            other = [(j, l), (i, l), (i, j)]
            self.assertTold(other, turned(one, 0))
            self.assertTold(one, turned(other, 0))
            self.assertTold([(i, 5)] + other + [(l, 5)], turned([(i, 5)] + one + [(l, 5)], 1))
            self.assertTold([(i, 5)] + one + [(l, 5)], turned([(i, 5)] + other + [(l, 5)], 1))

    def test_three_that_are_not_so(self):
        for way in (
            [(0, 1), (1, 2), (0, 2)], [(0, 2), (0, 1), (1, 2)], [(0, 1), (0, 2), (2, 1)], [(0, 1), (2, 0), (1, 2)],
            [(1, 0), (0, 2), (1, 2)], [(0, 1), (0, 2), (1, 3)], [(0, 1), (0, 3), (1, 2)], [(0, 1), (3, 2), (1, 2)],
            [(0, 1), (0, 1), (0, 1)], [(0, 2), (1, 2), (0, 1)],
        ):
            self.check_as_model(way, 0)
        self.check_no_turn([(0, 1), (1, 2), (0, 2)], 0)
        self.check_no_turn([(0, 1), (0, 2), (2, 1)], 0)
        self.check_no_turn([(0, 1), (0, 2), (1, 3)], 0)

    def test_all_rows_of_three_passings(self):
        pairs = list(itertools.permutations(range(4), 2))
        for way in itertools.product(pairs, repeat=3):
            for at in range(4):
                self.check_as_model(list(way), at)

    def test_empty_way_and_ways_of_one_passing(self):
        for at in (-2, -1, 0, 1, 2, FAR_NUMBER):
            self.check_no_turn([], at)
            self.check_no_turn((), at)
            self.check_no_turn([(0, 1)], at)

    def test_no_place_below_0_at_the_end_or_beyond(self):
        for way in ([(1, 0), (3, 2)], THREE, THREE_ABOUT, [(1, 0), (3, 2), (5, 4), (1, 0)]):
            turned(way, 0)
            for at in list(range(-6, 0)) + [len(way) - 1] + list(range(len(way), len(way) + 5)):
                self.check_no_turn(way, at)
            self.check_no_turn(way, FAR_NUMBER)
            self.check_no_turn(way, -FAR_NUMBER)
        self.check_no_turn(THREE, 1)

    def test_all_fewest_ways_at_all_places(self):
        for start, book, ways in small_ways():
            for way in ways[:20]:
                for at in range(-len(way) - 1, len(way) + 2):
                    self.check_as_model(way, at)

    def test_turned_way_is_one_of_the_same(self):
        for start, book, ways in small_ways():
            for way in ways[:20]:
                for at in may_turn(way):
                    self.assertIn(turned(way, at), ways)
                    self.assertTold(book, passed_all(model_book(start), turned(way, at)))

    def test_way_of_200_passings(self):
        start, book, ways = long_ways(12, 200, 0, 3)
        self.assertGreater(len(may_turn(ways[0])), 20)
        for at in range(-1, 202):
            self.check_as_model(ways[0], at)

    def test_tuple_and_asking(self):
        self.assertTold(THREE_ABOUT, turned(tuple(THREE), 0))
        for start, book, ways in small_ways():
            for at in may_turn(ways[0]):
                self.check_asking(turned, way=ways[0], at=at)
                self.check_asking(turned, way=tuple(ways[0]), at=at)
        way = [(0, 1), (0, 2)]
        with self.assertRaises(NoTurn):
            turned(at=0, way=way)
        self.assertTold([(0, 1), (0, 2)], way)


class MayTurn(unittest.TestCase, Asking):
    def test_written_out(self):
        self.assertTold([], may_turn([]))
        self.assertTold([], may_turn([(0, 1)]))
        self.assertTold([], may_turn([(0, 1), (0, 1), (0, 1)]))
        self.assertTold([0], may_turn(THREE))
        self.assertTold([0], may_turn(tuple(THREE_ABOUT)))
        self.assertTold([0, 1], may_turn([(1, 0), (3, 2), (5, 4)]))
        self.assertTold([0, 3], may_turn(THREE + [(1, 3), (0, 2)]))

    def test_all_fewest_ways(self):
        for start, book, ways in small_ways():
            for way in ways[:20]:
                self.assertTold([at for at in range(len(way)) if model_turned(way, at) is not None], may_turn(way))

    def test_asking(self):
        for start, book, ways in small_ways():
            self.check_asking(may_turn, way=ways[0])
            self.check_asking(may_turn, way=tuple(ways[-1]))


class LedOver(unittest.TestCase, Asking):
    def check_led(self, start, way, other):
        places = led_over(model_book(start), way, other)
        self.assertIs(type(places), list)
        self.assertTrue(all(is_int(at) for at in places))
        self.assertEqual(model_led(way, places), other)
        row = way
        for at in places:
            row = turned(row, at)
        self.assertTold(other, row)
        self.assertIs(shows_led(way, other, places), True)

    def test_written_out(self):
        self.assertTold([], led_over(((0,),), [], []))
        self.check_led(first_ride(4), [(1, 0), (3, 2)], [(3, 2), (1, 0)])
        self.check_led((0, 2, 1), [(0, 2), (0, 1), (2, 1)], [(2, 1), (0, 1), (0, 2)])

    def test_all_pairs_of_small_books_ways(self):
        gone_through = 0
        for start, book, ways in small_ways():
            for way, other in itertools.product(ways[:12] + ways[-12:], repeat=2):
                self.check_led(start, way, other)
                gone_through += way != other
        self.assertGreater(gone_through, 5000)

    def test_way_and_itself(self):
        for start, book, ways in small_ways():
            self.check_led(start, ways[0], ways[0])

    def test_six_riders_eight_passings_and_somewhat_beyond(self):
        for seed in range(12):
            for many, length in ((4, 8), (5, 8), (6, 8), (7, 10), (8, 14)):
                start, book, ways = long_ways(many, length, 5, seed)
                for way, other in itertools.permutations(ways, 2):
                    self.check_led(start, way, other)

    def test_all_riders_turned_about(self):
        start = first_ride(4)[::-1]
        way = [(0, 1), (0, 2), (0, 3), (1, 2), (1, 3), (2, 3)]
        passed_all(model_book(start), way)
        self.check_led(start, way, way[::-1])
        self.check_led(start, way[::-1], way)

    def test_asking(self):
        for start, book, ways in small_ways():
            one = model_book(start)
            self.check_asking(led_over, one=one, way=ways[0], other=ways[-1])
            told = led_over(one, tuple(ways[0]), tuple(ways[-1]))
            self.assertTold(told, led_over(one, ways[0], ways[-1]))


class ShowsLed(unittest.TestCase, Asking):
    def check_thing(self, way, other, thing):
        self.assertIs(shows_led(way, other, thing), model_shows_led(way, other, thing), repr((way, other, thing)))

    def test_empty_list(self):
        for start, book, ways in small_ways():
            for way in ways[:4]:
                self.assertIs(shows_led(way, ways[0], []), way == ways[0])
                self.assertIs(shows_led(way, way, []), True)
                for thing in ((), None, False, 0, "", [[]], [()]):
                    self.assertIs(shows_led(way, way, thing), False)

    def test_there_and_back(self):
        for start, book, ways in small_ways():
            for at in may_turn(ways[0]):
                self.assertIs(shows_led(ways[0], ways[0], [at, at]), True)
                self.assertIs(shows_led(ways[0], ways[0], [at] * 400), True)
                self.assertIs(shows_led(ways[0], ways[0], [at]), False)
                self.assertIs(shows_led(ways[0], ways[0], [at] * 3), False)

    def test_all_lists_of_places(self):
        for start, book, ways in small_ways():
            if len(ways) > 1 and len(ways[0]) <= 4:
                for length in range(4):
                    for thing in itertools.product(range(-1, len(ways[0]) + 1), repeat=length):
                        self.check_thing(ways[0], ways[-1], list(thing))

    def test_right_lists_and_these_with_one_thing_otherwise(self):
        shown = 0
        for seed in range(6):
            start, book, ways = long_ways(6, 8, 2, seed)
            for way, other in itertools.permutations(ways, 2):
                places = led_over(model_book(start), way, other)
                self.assertIs(shows_led(way, other, places), True)
                shown += len(places) > 0
                for thing in one_otherwise(places):
                    self.check_thing(way, other, thing)
        self.assertGreater(shown, 20)

    def test_other_kinds(self):
        for way, other in (([(1, 0), (3, 2)], [(3, 2), (1, 0)]), (THREE, THREE_ABOUT), (THREE, THREE), ([], [])):
            for thing in STRANGE:
                self.check_thing(way, other, thing)
        way, other = [(1, 0), (3, 2), (5, 4)], [(1, 0), (5, 4), (3, 2)]
        self.assertIs(shows_led(way, other, [1]), True)
        for thing in ((1,), [True], ["1"], [None], [[1]], [(1,)], 1, True, "1", [1, None], [1, False, False], [-2]):
            self.assertIs(shows_led(way, other, thing), False, repr(thing))
        self.assertIs(shows_led(way, other, [1, FAR_NUMBER]), False)
        self.assertIs(shows_led(way, other, [-FAR_NUMBER, 1]), False)

    def test_asking(self):
        for thing in ([0], (0,), [0, 0], [], None, [[0]], [5]):
            self.check_asking(shows_led, way=THREE, other=THREE_ABOUT, thing=thing)
        self.assertIs(shows_led(tuple(THREE), tuple(THREE_ABOUT), [0]), True)
        self.assertIs(shows_led(THREE, tuple(THREE_ABOUT), [0]), True)
        self.assertIs(shows_led(tuple(THREE), THREE, []), True)


if __name__ == "__main__":
    unittest.main()
