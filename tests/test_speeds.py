import itertools
import math
import random
import unittest
from fractions import Fraction

from tallyring.fewest import apart, is_between
from tallyring.rides import book_of
from tallyring.speeds import beat_of, book_at, level_next, passings_till, same_again
from tests.helpers import (
    FAR_NUMBER, Asking, first_ride, loose_book, model_book, random_ride, sample_rides, table_from, unfit_triples,
)

MOST_SPEED = 10 ** 6


def meetings(ride, speeds, till):
    """All meetings (time, i, j), i coming by j, at times up to one, each gone through."""
    many = len(ride)
    found = []
    for i, j in itertools.permutations(range(many), 2):
        faster_by = speeds[i] - speeds[j]
        if faster_by > 0:
            ahead = (ride[j] - ride[i]) % many
            while Fraction(ahead, faster_by) <= till:
                found.append((Fraction(ahead, faster_by), i, j))
                ahead += many
    return sorted(found)


def model_book_at(ride, speeds, beat):
    tallies = [list(row) for row in model_book(ride)]
    for time, i, j in meetings(ride, speeds, beat):
        if time < beat:
            tallies[i][j] += 1
            tallies[j][i] -= 1
    return tuple(tuple(row) for row in tallies)


def book_just_ahead(ride, speeds, beat):
    """The book of where they are so little ahead of a beat that nobody is level between."""
    many = len(ride)
    little = Fraction(1, 100 * many * MOST_SPEED * MOST_SPEED)
    places = [place + speed * (beat - little) for place, speed in zip(ride, speeds)]
    return loose_book(places, many) if beat > 0 else model_book(ride)


def small_cases():
    """Rides and small speeds, near enough to go through all meetings."""
    source = random.Random(61)
    for many in (1, 2, 3, 4, 5, 7, 12):
        for most in (0, 1, 2, 5):
            for ride in (first_ride(many), random_ride(source, many, 0), random_ride(source, many, 3)):
                yield ride, [source.randint(0, most) for _ in range(many)]
    for speeds in itertools.product(range(3), repeat=3):
        yield first_ride(3), list(speeds)


def far_cases():
    source = random.Random(67)
    for ride in sample_rides():
        most = source.choice((1, 100, MOST_SPEED))
        yield ride, [source.randint(0, most) for _ in ride]
    for many in (2, 12):
        yield first_ride(many), [MOST_SPEED] + [0] * (many - 1)
        yield first_ride(many), [0] * (many - 1) + [MOST_SPEED]


FAR_BEATS = (1, 17, 10 ** 6, FAR_NUMBER - 1, FAR_NUMBER, FAR_NUMBER + 5)


class BookAt(unittest.TestCase, Asking):
    def test_level_just_as_the_beat_comes_is_not_by_yet(self):
        for beat, tally in ((0, 0), (1, 0), (2, 1), (3, 1), (4, 2)):
            self.assertTold(((0, tally), (-tally, 0)), book_at((0, -1), [1, 0], beat))
            self.assertTold(((0, -tally), (tally, 0)), book_at((0, -1), [0, 1], beat))

    def test_amid_a_beat(self):
        for beat, tally in ((0, 0), (1, 1), (2, 2), (3, 3)):
            self.assertTold(((0, tally), (-tally, 0)), book_at((0, -1), [7, 5], beat))

    def test_three_level_at_once(self):
        self.assertTold(table_from(3, {}), book_at((0, -1, -2), [0, 1, 2], 1))
        expected = table_from(3, {(0, 1): -1, (0, 2): -1, (1, 2): -1})
        self.assertTold(expected, book_at((0, -1, -2), [0, 1, 2], 2))

    def test_against_all_meetings(self):
        for ride, speeds in small_cases():
            for beat in (0, 1, 2, 3, 5, 8):
                told = book_at(ride, speeds, beat)
                self.assertTold(model_book_at(ride, speeds, beat), told)
                self.assertTold(told, book_at(ride, tuple(speeds), beat))

    def test_far_beats(self):
        for ride, speeds in far_cases():
            for beat in FAR_BEATS:
                told = book_at(ride, speeds, beat)
                self.assertTold(book_just_ahead(ride, speeds, beat), told)
                self.assertEqual(unfit_triples(told), [])

    def test_far_written_out(self):
        gone = MOST_SPEED * FAR_NUMBER
        for ride, gap in (((0, -1), 1), ((0, 1), -1), ((5, -2), 7)):
            faster = (gap + gone - 1) // 2
            self.assertTold(((0, faster), (-faster, 0)), book_at(ride, [MOST_SPEED, 0], FAR_NUMBER))
            slower = (gap - gone) // 2
            self.assertTold(((0, slower), (-slower, 0)), book_at(ride, [0, MOST_SPEED], FAR_NUMBER))

    def test_first_beat_and_all_alike(self):
        for ride, speeds in [*small_cases(), *far_cases()]:
            self.assertTold(model_book(ride), book_at(ride, speeds, 0))
            for beat in (1, 9, FAR_NUMBER):
                for speed in (0, 3, MOST_SPEED):
                    self.assertTold(model_book(ride), book_at(ride, [speed] * len(ride), beat))

    def test_one_alone(self):
        for ride, speed, beat in itertools.product(((0,), (7,), (-FAR_NUMBER,)), (0, MOST_SPEED), (0, 1, FAR_NUMBER)):
            self.assertTold(((0,),), book_at(ride, [speed], beat))

    def test_the_ride_gone_on_where_nobody_is_level(self):
        found = 0
        for ride, speeds in [*small_cases(), *far_cases()]:
            for beat in (1, 4, FAR_NUMBER + 1):
                on = tuple(place + speed * beat for place, speed in zip(ride, speeds))
                if len({place % len(ride) for place in on}) == len(ride):
                    found += 1
                    self.assertTold(model_book(on), book_at(ride, speeds, beat))
                    self.assertTold(book_at(on, speeds, 5), book_at(ride, speeds, beat + 5))
        self.assertGreater(found, 100)

    def test_earlier_books_are_between(self):
        for ride, speeds in small_cases():
            books = [book_at(ride, speeds, beat) for beat in (0, 1, 3, 6)]
            for one, book, other in zip(books, books[1:], books[2:]):
                self.assertIs(is_between(one, other, book), True)
            self.assertIs(is_between(books[0], books[3], books[1]), True)

    def test_asking(self):
        for ride, speeds in far_cases():
            self.check_asking(book_at, ride=ride, speeds=speeds, beat=7)
            self.check_asking(book_at, ride=ride, speeds=tuple(speeds), beat=FAR_NUMBER)


class PassingsTill(unittest.TestCase, Asking):
    def test_written_out(self):
        for beat, many in ((0, 0), (1, 0), (2, 1), (3, 1), (4, 2), (FAR_NUMBER, FAR_NUMBER // 2)):
            self.assertTold(many, passings_till((0, -1), [1, 0], beat))
            self.assertTold(many, passings_till((0, -1), [0, 1], beat))
        self.assertTold(0, passings_till((0, -1, -2), [0, 1, 2], 1))
        self.assertTold(3, passings_till((0, -1, -2), [0, 1, 2], 2))

    def test_against_all_meetings(self):
        for ride, speeds in small_cases():
            for beat in (0, 1, 2, 3, 5, 8):
                expected = len([time for time, i, j in meetings(ride, speeds, beat) if time < beat])
                self.assertTold(expected, passings_till(ride, speeds, beat))
                self.assertTold(expected, passings_till(ride, tuple(speeds), beat))

    def test_as_far_as_the_books_are_apart(self):
        for ride, speeds in far_cases():
            for beat in FAR_BEATS:
                told = passings_till(ride, speeds, beat)
                self.assertTold(apart(book_of(ride), book_just_ahead(ride, speeds, beat)), told)

    def test_none(self):
        for ride, speeds in far_cases():
            self.assertTold(0, passings_till(ride, speeds, 0))
            self.assertTold(0, passings_till(ride, [4] * len(ride), FAR_NUMBER))
        self.assertTold(0, passings_till((3,), [MOST_SPEED], FAR_NUMBER))

    def test_asking(self):
        for ride, speeds in far_cases():
            self.check_asking(passings_till, ride=ride, speeds=speeds, beat=FAR_NUMBER)


def rounds_up_to(place, many):
    """The least number of rounds that comes to a place at least."""
    return -(-place // many)


class LevelNext(unittest.TestCase, Asking):
    def test_written_out(self):
        self.assertTold(((1, 1), [(0, 1)]), level_next((0, -1), [1, 0], 0))
        self.assertTold(((1, 1), [(0, 1)]), level_next((0, -1), [1, 0], 1))
        self.assertTold(((3, 1), [(0, 1)]), level_next((0, -1), [1, 0], 2))
        self.assertTold(((1, 1), [(1, 0)]), level_next((0, -1), [0, 1], 1))
        self.assertTold(((1, 2), [(0, 1)]), level_next((0, -1), [7, 5], 0))
        self.assertTold(((3, 2), [(0, 1)]), level_next((0, -1), [7, 5], 1))
        self.assertTold(((1, 3), [(2, 1)]), level_next((0, -1, -2), [1, 0, 3], 0))

    def test_lowest_terms(self):
        # From rider 0 to rider 1 it's 2 spots at 4 a beat; to rider 2, 4 spots at 4 a beat.
        self.assertTold(((1, 2), [(0, 1), (0, 2), (2, 1)]), level_next((0, -1, -2), [4, 0, 2], 0))
        self.assertTold(((7, 2), [(0, 1), (0, 2), (2, 1)]), level_next((0, -1, -2), [4, 0, 2], 3))
        self.assertTold(((1, 1), [(0, 2)]), level_next((0, -1, -2), [4, 0, 0], 1))

    def test_several_at_once(self):
        expected = ((1, 1), [(1, 0), (2, 0), (2, 1)])
        self.assertTold(expected, level_next((0, -1, -2), [0, 1, 2], 0))
        self.assertTold(expected, level_next((0, -1, -2), [0, 1, 2], 1))
        self.assertTold(((1, 1), [(0, 3), (2, 1)]), level_next((0, 3, 2, 1), [3, 1, 2, 2], 0))

    def test_against_all_meetings(self):
        whole = 0
        for ride, speeds in small_cases():
            far = 2 * len(ride) + 8
            found = meetings(ride, speeds, far)
            for beat in (0, 1, 2, 3, 5, 8):
                times = [time for time, i, j in found if time >= beat]
                if not times:
                    self.assertTold(None, level_next(ride, speeds, beat))
                    continue
                whole += times[0] == beat
                pairs = sorted((i, j) for time, i, j in found if time == times[0])
                expected = ((times[0].numerator, times[0].denominator), pairs)
                self.assertTold(expected, level_next(ride, speeds, beat))
                self.assertTold(expected, level_next(ride, tuple(speeds), beat))
        self.assertGreater(whole, 50)

    def check_told(self, ride, speeds, beat, told):
        many = len(ride)
        (top, bottom), pairs = told
        self.assertEqual(math.gcd(top, bottom), 1)
        self.assertGreater(bottom, 0)
        time = Fraction(top, bottom)
        self.assertGreaterEqual(time, beat)
        level = []
        for i, j in itertools.permutations(range(many), 2):
            if speeds[i] > speeds[j]:
                gap = ride[i] - ride[j] + (speeds[i] - speeds[j]) * time
                gap_before = ride[i] - ride[j] + (speeds[i] - speeds[j]) * beat
                # No whole round is come to from the beat on, ahead of the time.
                self.assertEqual(rounds_up_to(gap, many), rounds_up_to(gap_before, many))
                level += [(i, j)] if gap % many == 0 else []
        self.assertTold(level, pairs)
        self.assertTrue(pairs)

    def test_far_beats(self):
        at_once = 0
        for ride, speeds in far_cases():
            for beat in (0,) + FAR_BEATS:
                told = level_next(ride, speeds, beat)
                if len(set(speeds)) == 1:
                    self.assertTold(None, told)
                else:
                    self.check_told(ride, speeds, beat, told)
                    at_once += told[0] == (beat, 1)
        self.assertGreater(at_once, 10)

    def test_nobody_ever(self):
        for ride, speeds in far_cases():
            for beat in (0, 5, FAR_NUMBER):
                self.assertTold(None, level_next(ride, [speeds[0]] * len(ride), beat))
        self.assertTold(None, level_next((0,), [0], 0))
        self.assertTold(None, level_next((5,), [MOST_SPEED], FAR_NUMBER))

    def test_asking(self):
        for ride, speeds in far_cases():
            self.check_asking(level_next, ride=ride, speeds=speeds, beat=FAR_NUMBER)


class BeatOf(unittest.TestCase, Asking):
    def test_written_out(self):
        for many, beat in ((1, 2), (2, 4), (3, 6), (10 ** 11, 2 * 10 ** 11)):
            self.assertTold(beat, beat_of((0, -1), [1, 0], many))
            self.assertTold(beat, beat_of((0, -1), [0, 1], many))
        for many in (1, 2, 3):
            self.assertTold(2, beat_of((0, -1, -2), [0, 1, 2], many))
        self.assertTold(1, beat_of((0, -1), [MOST_SPEED, 0], 1))
        self.assertTold(1, beat_of((0, -1), [MOST_SPEED, 0], MOST_SPEED // 2))
        self.assertTold(2, beat_of((0, -1), [MOST_SPEED, 0], MOST_SPEED // 2 + 1))

    def test_against_all_beats(self):
        for ride, speeds in small_cases():
            found = meetings(ride, speeds, 60)
            for many in (1, 2, 3, 4, 7, 12):
                told = beat_of(ride, speeds, many)
                if len(set(speeds)) == 1:
                    self.assertTold(None, told)
                    continue
                beat = 0
                while len([time for time, i, j in found if time < beat]) < many:
                    beat += 1
                self.assertTold(beat, told)
                self.assertTold(beat, beat_of(ride, tuple(speeds), many))
                self.assertLess(beat, 60)

    def test_great_ones(self):
        for ride, speeds in far_cases():
            for many in (1, 1000, 10 ** 11, FAR_NUMBER, FAR_NUMBER + 3):
                beat = beat_of(ride, speeds, many)
                if len(set(speeds)) == 1:
                    self.assertTold(None, beat)
                    continue
                first = model_book(ride)
                self.assertGreaterEqual(apart(first, book_just_ahead(ride, speeds, beat)), many)
                self.assertLess(apart(first, book_just_ahead(ride, speeds, beat - 1)), many)

    def test_never_so_many(self):
        for many in (1, 5, FAR_NUMBER):
            self.assertTold(None, beat_of((0,), [0], many))
            self.assertTold(None, beat_of((4,), [MOST_SPEED], many))
            self.assertTold(None, beat_of((0, 1, 2), [5, 5, 5], many))
            self.assertTold(None, beat_of((0, 1, 2), [0, 0, 0], many))

    def test_asking(self):
        for ride, speeds in far_cases():
            self.check_asking(beat_of, ride=ride, speeds=speeds, many=10 ** 11)


class SameAgain(unittest.TestCase, Asking):
    def test_against_all_beats(self):
        told_beats = set()
        for ride, speeds in [*small_cases(), *far_cases()]:
            many = len(ride)
            beat = 1
            while any((speed - speeds[0]) * beat % many for speed in speeds):
                beat += 1
            self.assertTold(beat, same_again(ride, speeds))
            self.assertTold(beat, same_again(ride, tuple(speeds)))
            told_beats.add(beat)
        self.assertTrue({1, 2, 3, 12} <= told_beats)

    def test_written_out(self):
        self.assertTold(6, same_again(first_ride(6), [0, 1, 0, 0, 0, 0]))
        self.assertTold(6, same_again(first_ride(6), [0, 2, 3, 0, 0, 0]))
        self.assertTold(6, same_again(first_ride(6), [0, 2, 5, 0, 0, 0]))
        self.assertTold(3, same_again(first_ride(6), [7, 9, 5, 1, 3, 11]))
        self.assertTold(2, same_again(first_ride(6), [MOST_SPEED, MOST_SPEED - 3, MOST_SPEED - 9] + [MOST_SPEED] * 3))
        self.assertTold(1, same_again(first_ride(6), [0, 6, 12, 18, 600000, 0]))

    def test_all_alike(self):
        for ride, speeds in far_cases():
            for speed in (0, 1, MOST_SPEED):
                self.assertTold(1, same_again(ride, [speed] * len(ride)))

    def test_as_far_apart_then(self):
        for ride, speeds in far_cases():
            beat = same_again(ride, speeds)
            on = tuple(place + speed * beat for place, speed in zip(ride, speeds))
            for i, j in itertools.combinations(range(len(ride)), 2):
                self.assertEqual((on[i] - on[j] - ride[i] + ride[j]) % len(ride), 0)

    def test_asking(self):
        for ride, speeds in far_cases():
            self.check_asking(same_again, ride=ride, speeds=speeds)


if __name__ == "__main__":
    unittest.main()
