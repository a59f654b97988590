import itertools
import random
import unittest

from tallyring.counting import how_many, within
from tests.helpers import FAR_NUMBER, Asking, distances, first_ride, random_ride


def counted(ride, depth):
    """How many books are just 0, 1, 2 and so on passings from a ride's, all gone through."""
    far = [passings for passings, beyond in distances(ride, depth).values()]
    return [far.count(at) for at in range(depth + 1)]


def series(many, length):
    """The first numbers of the product of (1 + .. + x^i) / (1 - x^i), each sum written out."""
    told = [1] + [0] * (length - 1)
    for i in range(1, many):
        told = [sum(told[max(0, at - i):at + 1]) for at in range(length)]
        for at in range(i, length):
            told[at] += told[at - i]
    return told


class HowMany(unittest.TestCase, Asking):
    def test_all_books_gone_through(self):
        for many, depth in ((1, 6), (2, 30), (3, 16), (4, 10), (5, 7), (6, 5)):
            for ride in (first_ride(many), random_ride(random.Random(many), many, 5)):
                told = [how_many(many, apart) for apart in range(depth + 1)]
                self.assertTold(counted(ride, depth), told)

    def test_written_out(self):
        self.assertTold([1, 0, 0, 0], [how_many(1, apart) for apart in range(4)])
        self.assertTold([1, 2, 2, 2], [how_many(2, apart) for apart in range(4)])
        self.assertTold([1, 3, 6, 9, 12], [how_many(3, apart) for apart in range(5)])
        for many in range(3, 15):
            self.assertTold(many, how_many(many, 1))
            self.assertTold(many * (many + 1) // 2, how_many(many, 2))
        for apart in (1, 7, 200, 201):
            self.assertTold(2, how_many(2, apart))
            self.assertTold(3 * apart, how_many(3, apart))

    def test_none_apart(self):
        for many in range(1, 15):
            self.assertTold(1, how_many(many, 0))

    def test_none_nearer_than_none(self):
        for many in range(1, 13):
            self.assertTold((0, 0), (how_many(many, -1), within(many, -1)))

    def test_one_rider_alone_has_one_book(self):
        for apart in (1, 2, 3, 64, 199, 200, 210):
            self.assertTold(0, how_many(1, apart))

    def test_to_12_riders_and_200_and_beyond(self):
        for many in range(1, 15):
            expected = series(many, 211)
            for apart in [*range(0, 40), *range(40, 190, 13), *range(190, 211)]:
                self.assertTold(expected[apart], how_many(many, apart))

    def test_asking(self):
        for many, apart in itertools.product((1, 2, 7, 12), (0, 1, 5, 200)):
            self.check_asking(how_many, many=many, apart=apart)


class Within(unittest.TestCase, Asking):
    def test_all_books_gone_through(self):
        for many, depth in ((1, 6), (2, 30), (3, 16), (4, 10), (5, 7), (6, 5)):
            expected = list(itertools.accumulate(counted(first_ride(many), depth)))
            self.assertTold(expected, [within(many, apart) for apart in range(depth + 1)])

    def test_written_out(self):
        self.assertTold([1, 3, 5, 7], [within(2, apart) for apart in range(4)])
        self.assertTold([1, 4, 10, 19, 31], [within(3, apart) for apart in range(5)])
        for many in range(1, 15):
            self.assertTold(1, within(many, 0))

    def test_one_rider_alone_has_one_book(self):
        for apart in (0, 1, 2, 3, 64, 199, 200, 210):
            self.assertTold(1, within(1, apart))

    def test_to_12_riders_and_200_and_beyond(self):
        for many in range(1, 15):
            expected = list(itertools.accumulate(series(many, 211)))
            for apart in [*range(0, 40), *range(40, 190, 13), *range(190, 211)]:
                self.assertTold(expected[apart], within(many, apart))

    def test_far(self):
        self.assertTold(1, within(1, FAR_NUMBER))
        self.assertTold(2 * FAR_NUMBER + 1, within(2, FAR_NUMBER))
        self.assertTold(1 + 3 * FAR_NUMBER * (FAR_NUMBER + 1) // 2, within(3, FAR_NUMBER))

    def test_asking(self):
        for many, apart in itertools.product((1, 2, 7, 12), (0, 1, 5, 200)):
            self.check_asking(within, many=many, apart=apart)


if __name__ == "__main__":
    unittest.main()
