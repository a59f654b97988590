import itertools
import unittest

from tallyring.rules import FAR
from tallyring.tables import amiss, first_table, is_book, is_table
from tests.helpers import (
    FAR_NUMBER, STRANGE, Asking, all_tables, model_book, other_kinds, other_lengths, sample_rides, table_from,
    unfit_triples,
)

FITTING = table_from(3, {(0, 1): 1, (0, 2): 3, (1, 2): 1})
UNFIT = table_from(3, {(0, 1): 1, (0, 2): 0, (1, 2): 1})


def spoiled_at(table, triple, by):
    """The table with the tally of a triple's outer two changed."""
    low, _, high = triple
    rows = [list(row) for row in table]
    rows[low][high] += by
    rows[high][low] -= by
    return tuple(tuple(row) for row in rows)


class Rules(unittest.TestCase, Asking):
    def test_far(self):
        self.assertTold(200, FAR)


class FirstTable(unittest.TestCase, Asking):
    def test_written_out(self):
        self.assertTold(((0,),), first_table(1))
        self.assertTold(((0, 0), (0, 0)), first_table(2))
        self.assertTold(((0, 0, 0), (0, 0, 0), (0, 0, 0)), first_table(3))

    def test_of_1_to_12_and_more(self):
        for many in range(1, 16):
            self.assertTold(table_from(many, {}), first_table(many))
            self.assertIs(is_book(first_table(many)), True)
            self.check_asking(first_table, many=many)


class Amiss(unittest.TestCase, Asking):
    def test_written_out(self):
        self.assertIsNone(amiss(FITTING))
        self.assertTold((0, 1, 2), amiss(UNFIT))

    def test_just_0_and_1_fit(self):
        for far in (0, 1, -5, FAR_NUMBER, -FAR_NUMBER):
            for rest in range(-3, 5):
                table = table_from(3, {(0, 1): far, (1, 2): -3, (0, 2): far - 3 + rest})
                self.assertTold(None if rest in (0, 1) else (0, 1, 2), amiss(table))

    def test_far_tallies_are_told_to_the_unit(self):
        far = FAR_NUMBER - 1
        for rest in range(-2, 4):
            table = table_from(3, {(0, 1): far, (1, 2): far, (0, 2): 2 * far + rest})
            self.assertTold(None if rest in (0, 1) else (0, 1, 2), amiss(table))

    def test_one_and_two_riders_always_fit(self):
        self.assertIsNone(amiss(((0,),)))
        for tally in (0, 1, -1, 2, -2, FAR_NUMBER, -FAR_NUMBER):
            self.assertIsNone(amiss(((0, tally), (-tally, 0))))

    def test_books_of_rides_fit(self):
        for ride in sample_rides():
            self.assertIsNone(amiss(model_book(ride)))

    def test_least_of_all_that_do_not_fit(self):
        for many, low, high in ((3, -3, 3), (4, -1, 1)):
            for table in all_tables(many, low, high):
                unfit = unfit_triples(table)
                self.assertTold(unfit[0] if unfit else None, amiss(table))

    def test_only_one_triple_does_not_fit(self):
        for many in range(3, 7):
            found = set()
            for triple in itertools.combinations(range(many), 3):
                for by in (-1, 2):
                    for table in self.spoiled_books(many, triple, by):
                        unfit = unfit_triples(table)
                        if len(unfit) == 1:
                            found.add(unfit[0])
                            self.assertTold(unfit[0], amiss(table))
            self.assertIn((many - 3, many - 2, many - 1), found)

    def spoiled_books(self, many, triple, by):
        for ride in sample_rides():
            if len(ride) == many:
                yield spoiled_at(model_book(ride), triple, by)

    def test_several_of_twelve_do_not_fit(self):
        for ride in sample_rides():
            if len(ride) > 6:
                for triple in ((0, 1, 2), (2, 4, 6), (len(ride) - 3, len(ride) - 2, len(ride) - 1)):
                    table = spoiled_at(model_book(ride), triple, 7)
                    self.assertTold(unfit_triples(table)[0], amiss(table))

    def test_asking(self):
        for table in (((0,),), FITTING, UNFIT):
            self.check_asking(amiss, table=table)


class IsTableAndIsBook(unittest.TestCase, Asking):
    def check(self, thing, table, book):
        self.assertIs(is_table(thing), table, repr(thing))
        self.assertIs(is_book(thing), book, repr(thing))

    def test_tables_that_fit(self):
        for ride in sample_rides():
            self.check(model_book(ride), True, True)

    def test_table_that_does_not_fit_is_no_book(self):
        self.check(UNFIT, True, False)
        for table in all_tables(3, -2, 2):
            self.check(table, True, not unfit_triples(table))
        for ride in sample_rides():
            if len(ride) > 2:
                for triple in ((0, 1, 2), (len(ride) - 3, len(ride) - 2, len(ride) - 1)):
                    self.check(spoiled_at(model_book(ride), triple, 9), True, False)

    def test_strange_things(self):
        for thing in STRANGE:
            self.check(thing, False, False)
        self.check(((0,),), True, True)
        self.check(((0, 1), (-1, 0)), True, True)

    def test_one_thing_of_another_kind(self):
        for table in (((0,),), ((0, 1), (-1, 0)), ((0, 0), (0, 0)), FITTING, UNFIT, first_table(4)):
            for thing in other_kinds(table):
                self.check(thing, False, False)

    def test_truths_that_are_equal_to_numbers(self):
        self.check(((False,),), False, False)
        self.check(((0, True), (-1, 0)), False, False)
        self.check(((0, -1), (True, 0)), False, False)
        self.check(((0, False), (0, 0)), False, False)
        self.check(((0, 0), (0, False)), False, False)

    def test_rows_out_or_too_many_or_too_long(self):
        for table in (((0,),), ((0, 1), (-1, 0)), first_table(3), FITTING, first_table(5)):
            for thing in other_lengths(table):
                self.check(thing, False, False)

    def test_all_rows_too_long_or_too_short(self):
        self.check(((0, 0), ), False, False)
        self.check(((0, 0, 0), (0, 0, 0)), False, False)
        self.check(((0, 0), (0, 0), (0, 0)), False, False)
        self.check(((), ()), False, False)

    def test_other_number_than_0_in_its_own_place(self):
        for many in range(1, 7):
            for at in range(many):
                for number in (1, -1, 2, FAR_NUMBER):
                    rows = [list(row) for row in first_table(many)]
                    rows[at][at] = number
                    self.check(tuple(tuple(row) for row in rows), False, False)

    def test_pair_not_turned_in_sign(self):
        for table in (first_table(2), first_table(4), FITTING, model_book((0, 5, 10, -1))):
            for i, j in itertools.permutations(range(len(table)), 2):
                for by in (1, -1, 2, FAR_NUMBER):
                    rows = [list(row) for row in table]
                    rows[i][j] += by
                    self.check(tuple(tuple(row) for row in rows), False, False)
        self.check(((0, 1), (1, 0)), False, False)
        self.check(((0, FAR_NUMBER), (FAR_NUMBER, 0)), False, False)

    def test_asking(self):
        for thing in (FITTING, UNFIT, [[0]], [(0,)], ([0],), [[0, [1]], []], None, "0", 5):
            self.check_asking(is_table, thing=thing)
            self.check_asking(is_book, thing=thing)


if __name__ == "__main__":
    unittest.main()
