import unittest

from tallyring.ridecheck import shows_ride, shows_three
from tallyring.rides import behind, book_of, is_ride, plain, ride_of
from tallyring.tables import amiss, first_table
from tests.helpers import (
    FAR_NUMBER, STRANGE, Asking, all_tables, first_ride, model_book, other_kinds, other_lengths, sample_rides,
    table_from, unfit_triples,
)

UNFIT = table_from(3, {(0, 1): 1, (0, 2): 0, (1, 2): 1})


def spots_on(ride, by):
    return tuple(place + by for place in ride)


class BookOf(unittest.TestCase, Asking):
    def test_written_out(self):
        self.assertTold(((0,),), book_of((5,)))
        self.assertTold(((0, 2), (-2, 0)), book_of((5, 0)))
        self.assertTold(((0, -3), (3, 0)), book_of((0, 5)))
        self.assertTold(((0, 3, 1), (-3, 0, -3), (-1, 3, 0)), book_of((7, -4, 3)))

    def test_first_book(self):
        for many in range(1, 14):
            self.assertTold(first_table(many), book_of(first_ride(many)))

    def test_by_places_less_one_another(self):
        for ride in sample_rides():
            for by in (0, 1, -1, 5, len(ride), FAR_NUMBER, -FAR_NUMBER):
                self.assertTold(model_book(ride), book_of(spots_on(ride, by)))

    def test_far_places_to_the_unit(self):
        self.assertTold(((0, FAR_NUMBER), (-FAR_NUMBER, 0)), book_of((FAR_NUMBER, -FAR_NUMBER - 1)))
        self.assertTold(((0, -FAR_NUMBER - 1), (FAR_NUMBER + 1, 0)), book_of((-FAR_NUMBER - 1, FAR_NUMBER)))

    def test_asking(self):
        for ride in sample_rides():
            self.check_asking(book_of, ride=ride)


class Plain(unittest.TestCase, Asking):
    def test_written_out(self):
        self.assertTold((0,), plain((-7,)))
        self.assertTold((0, -11, -4), plain((7, -4, 3)))
        self.assertTold((0, 5), plain((0, 5)))

    def test_first_place_is_0_and_its_book_the_same(self):
        for ride in sample_rides():
            for by in (0, 1, -1, 6, len(ride), FAR_NUMBER):
                told = plain(spots_on(ride, by))
                self.assertTold(spots_on(ride, -ride[0]), told)
                self.assertEqual(model_book(told), model_book(ride))

    def test_asking(self):
        for ride in sample_rides():
            self.check_asking(plain, ride=ride)


class RideOf(unittest.TestCase, Asking):
    def test_written_out(self):
        self.assertTold(("ride", (0,)), ride_of(((0,),)))
        self.assertTold(("ride", (0, -1)), ride_of(((0, 0), (0, 0))))
        self.assertTold(("ride", (0, 1)), ride_of(((0, -1), (1, 0))))
        self.assertTold(("ride", (0, -11, -4)), ride_of(((0, 3, 1), (-3, 0, -3), (-1, 3, 0))))
        self.assertTold(("three", (0, 1, 2)), ride_of(UNFIT))

    def test_the_one_ride_whose_first_place_is_0(self):
        for ride in sample_rides():
            self.assertTold(("ride", spots_on(ride, -ride[0])), ride_of(model_book(ride)))

    def test_ride_or_three_of_all_tables(self):
        for many, low, high in ((1, 0, 0), (2, -4, 4), (3, -3, 3), (4, -1, 1)):
            for table in all_tables(many, low, high):
                self.check_ride_or_three(table)

    def check_ride_or_three(self, table):
        unfit = unfit_triples(table)
        word, shown = ride_of(table)
        if unfit:
            self.assertTold(("three", unfit[0]), (word, shown))
        else:
            self.assertEqual(word, "ride")
            self.assertTold(0, shown[0])
            self.assertTold(table, model_book(shown))

    def test_one_tally_otherwise(self):
        for ride in sample_rides():
            many = len(ride)
            for i, j, by in ((0, many - 1, 2), (0, many // 2, -2), (many // 2, many - 1, FAR_NUMBER)):
                if i < j:
                    rows = [list(row) for row in model_book(ride)]
                    rows[i][j] += by
                    rows[j][i] -= by
                    self.check_ride_or_three(tuple(tuple(row) for row in rows))

    def test_asking(self):
        for ride in sample_rides():
            self.check_asking(ride_of, table=model_book(ride))
        self.check_asking(ride_of, table=UNFIT)


class Behind(unittest.TestCase, Asking):
    def test_written_out(self):
        self.assertTold([], behind(((0,),), 0))
        self.assertTold([1], behind(((0, 5), (-5, 0)), 0))
        self.assertTold([0], behind(((0, 5), (-5, 0)), 1))
        self.assertTold([1, 2, 3], behind(first_table(4), 0))
        self.assertTold([3, 0, 1], behind(first_table(4), 2))
        self.assertTold([2, 1], behind(book_of((7, -4, 3)), 0))

    def test_by_rests(self):
        for ride in sample_rides():
            many = len(ride)
            riders = {place % many: rider for rider, place in enumerate(ride)}
            for rider in range(many):
                expected = [riders[(ride[rider] - spots) % many] for spots in range(1, many)]
                self.assertTold(expected, behind(model_book(ride), rider))

    def test_asking(self):
        for ride in sample_rides():
            self.check_asking(behind, book=model_book(ride), rider=len(ride) - 1)


class IsRide(unittest.TestCase, Asking):
    def test_rides(self):
        for ride in sample_rides():
            self.assertIs(is_ride(ride), True)
            self.assertIs(is_ride(spots_on(ride, 3)), True)
        self.assertIs(is_ride((-5,)), True)
        self.assertIs(is_ride((1, 0)), True)

    def test_strange_things(self):
        for thing in STRANGE:
            self.assertIs(is_ride(thing), False, repr(thing))

    def test_one_thing_of_another_kind(self):
        for ride in ((0,), (1,), (0, 1), (0, -1, -2), (7, -4, 3), first_ride(5)):
            for thing in other_kinds(ride):
                self.assertIs(is_ride(thing), False, repr(thing))

    def test_places_of_like_rests(self):
        for many in range(2, 9):
            for at in range(1, many):
                for rounds in (0, 1, -1, FAR_NUMBER):
                    places = list(first_ride(many))
                    places[at] = places[at - 1] + rounds * many
                    self.assertIs(is_ride(tuple(places)), False)

    def test_one_place_out_or_twice(self):
        for ride in ((0,), (0, 1), (0, -1, -2), (0, 4, 11), first_ride(6)):
            for thing in other_lengths(ride):
                expected = bool(thing) and len({place % len(thing) for place in thing}) == len(thing)
                self.assertIs(is_ride(thing), expected, repr(thing))

    def test_asking(self):
        for thing in ((0, 1), (0, 2), [0, 1], [[0], [1]], (0, [1]), None):
            self.check_asking(is_ride, thing=thing)


class ShowsRide(unittest.TestCase, Asking):
    def test_any_ride_of_the_book(self):
        for ride in sample_rides():
            for by in (0, 1, -1, len(ride), FAR_NUMBER):
                self.assertIs(shows_ride(model_book(ride), spots_on(ride, by)), True)

    def test_rides_of_other_books(self):
        for ride in sample_rides():
            many = len(ride)
            for at in range(many):
                other = ride[:at] + (ride[at] + many,) + ride[at + 1:]
                self.assertIs(shows_ride(model_book(ride), other), many == 1)
            self.assertIs(shows_ride(model_book(ride), first_ride(many + 1)), False)
        self.assertIs(shows_ride(first_table(3), (0, -1)), False)
        self.assertIs(shows_ride(first_table(1), (0, -1)), False)

    def test_table_that_does_not_fit_has_none(self):
        for table in all_tables(3, -1, 1):
            shown = [ride for ride in self.near_rides() if shows_ride(table, ride)]
            self.assertEqual(bool(shown), not unfit_triples(table))

    def near_rides(self):
        return [(0, a, b) for a in range(-7, 8) for b in range(-7, 8) if is_ride((0, a, b))]

    def test_other_things(self):
        for ride in ((0,), (1, 0), (0, -1, -2), (7, -4, 3)):
            for thing in STRANGE + list(other_kinds(ride)) + list(other_lengths(ride)):
                self.assertIs(shows_ride(model_book(ride), thing), self.is_shown(ride, thing), repr(thing))

    def is_shown(self, ride, thing):
        # Only of one rider is a ride with a place out or twice, or a strange thing, ever a ride of this book.
        return len(ride) == 1 and isinstance(thing, tuple) and len(thing) == 1 and type(thing[0]) is int

    def test_places_of_like_rests(self):
        self.assertIs(shows_ride(first_table(2), (0, 0)), False)
        self.assertIs(shows_ride(first_table(3), (0, 0, 0)), False)
        self.assertIs(shows_ride(first_table(3), (0, -1, -1)), False)

    def test_asking(self):
        for thing in ((0, -1), (0, 1), [0, -1], None):
            self.check_asking(shows_ride, table=first_table(2), thing=thing)


class ShowsThree(unittest.TestCase, Asking):
    def test_all_triples(self):
        tables = list(all_tables(3, -2, 2)) + list(all_tables(4, -1, 1))[::7]
        for table in tables:
            many = len(table)
            unfit = unfit_triples(table)
            for i in range(-many, many + 1):
                for j in range(-many, many + 1):
                    for l in range(-many, many + 1):
                        self.assertIs(shows_three(table, (i, j, l)), (i, j, l) in unfit)

    def test_not_only_the_least(self):
        table = table_from(4, {(0, 2): 9, (1, 3): 9})
        self.assertEqual(amiss(table), (0, 1, 2))
        self.assertIs(shows_three(table, (0, 1, 2)), True)
        self.assertIs(shows_three(table, (1, 2, 3)), True)

    def test_far_tallies(self):
        for rest in range(-2, 4):
            table = table_from(3, {(0, 1): FAR_NUMBER, (1, 2): FAR_NUMBER, (0, 2): 2 * FAR_NUMBER + rest})
            self.assertIs(shows_three(table, (0, 1, 2)), rest not in (0, 1))

    def test_fewer_than_three_riders(self):
        for table in (((0,),), ((0, 7), (-7, 0))):
            for triple in ((0, 1, 2), (0, 0, 0), (0, 0, 1), (-2, -1, 0), (-1, 0, 1)):
                self.assertIs(shows_three(table, triple), False)

    def test_other_things(self):
        self.assertIs(shows_three(UNFIT, (0, 1, 2)), True)
        for thing in STRANGE + list(other_kinds((0, 1, 2))) + list(other_lengths((0, 1, 2))):
            self.assertIs(shows_three(UNFIT, thing), False, repr(thing))
        self.assertIs(shows_three(UNFIT, (False, True, 2)), False)
        self.assertIs(shows_three(UNFIT, (0, 1, FAR_NUMBER)), False)

    def test_asking(self):
        for thing in ((0, 1, 2), [0, 1, 2], (2, 1, 0), None):
            self.check_asking(shows_three, table=UNFIT, thing=thing)


class RideOrThreeNeverBoth(unittest.TestCase):
    def test_what_is_told_is_shown(self):
        for many, low, high in ((1, 0, 0), (2, -2, 2), (3, -2, 2), (4, -1, 1)):
            for table in all_tables(many, low, high):
                word, shown = ride_of(table)
                self.assertIs(shows_ride(table, shown), word == "ride")
                self.assertIs(shows_three(table, shown), word == "three")


if __name__ == "__main__":
    unittest.main()
