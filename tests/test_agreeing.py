import itertools
import random
import unittest

from tallyring.agreecheck import shows_dearest
from tallyring.agreeing import agreeing, dearest, hand_row, levels
from tallyring.errors import NotAgreed
from tallyring.hands import handed_all
from tallyring.rides import behind
from tallyring.tables import first_table
from tests.helpers import (
    FAR_NUMBER, STRANGE, Asking, distances, first_ride, is_int, loosely_moved_pairs, model_book, model_handed,
    one_otherwise, random_ride, sample_pairs, small_pairs, table_from,
)


def all_pairs():
    """Pairs of books, near and far, both ways about."""
    found = [(model_book(one), model_book(other)) for one, other in sample_pairs()]
    found += [(model_book(start), book) for start, book, far, ride in small_pairs()][::2]
    found += list(loosely_moved_pairs())
    return found + [(other, one) for one, other in found[::3]]


def few_riders(most):
    return [(one, other) for one, other in all_pairs() if len(one) <= most]


def prices_of(source, many):
    yield [0] * many
    yield [source.randint(0, 2) for _ in range(many)]
    yield [source.choice((0, 0, 5)) for _ in range(many)]
    yield [source.randint(0, 10 ** 6) for _ in range(many)]


def with_prices(pairs):
    source = random.Random(17)
    for one, other in pairs:
        for prices in prices_of(source, len(one)):
            yield one, other, prices


def do_agree(one, other, riders):
    return all(one[i][j] == other[i][j] for i, j in itertools.combinations(riders, 2))


def rising_lists(many):
    """All rising lists of riders, one at least."""
    for length in range(1, many + 1):
        yield from (list(riders) for riders in itertools.combinations(range(many), length))


def agreed_lists(one, other):
    """All rising lists of riders of whom any two agree, one at least."""
    found = [[]]
    for rider in range(len(one)):
        found += [riders + [rider] for riders in found if all(one[i][rider] == other[i][rider] for i in riders)]
    return found[1:]


def model_agreeing(one, other):
    lists = agreed_lists(one, other)
    most = max(len(riders) for riders in lists)
    return min(riders for riders in lists if len(riders) == most)


def model_dearest(one, other, prices):
    lists = agreed_lists(one, other)
    worth = max(sum(prices[rider] for rider in riders) for riders in lists)
    return (worth, min(riders for riders in lists if sum(prices[rider] for rider in riders) == worth))


def agreed_others(one, other, rider):
    return [each for each in range(len(one)) if each != rider and one[rider][each] == other[rider][each]]


def agreed_behind(one, other, rider):
    """The others that agree with a rider, as they stand behind it."""
    return [each for each in behind(one, rider) if one[rider][each] == other[rider][each]]


def model_level_row(one, other, prices, rider):
    order = agreed_behind(one, other, rider)
    found = {}
    for length in range(1, len(order) + 1):
        for row in itertools.combinations(order, length):
            if do_agree(one, other, row):
                worth = sum(prices[each] for each in row)
                found[row[-1]] = max(worth, found.get(row[-1], 0))
    return sorted(found.items())


def model_shows_dearest(one, other, prices, thing):
    """The document's words on the paper, one by one."""
    many = len(one)
    if type(thing) is not tuple or len(thing) != 3:
        return False
    worth, riders, rows = thing
    if not is_int(worth) or type(riders) is not list or not all(is_int(rider) for rider in riders):
        return False
    if riders not in list(rising_lists(many)) or not do_agree(one, other, riders):
        return False
    if sum(prices[rider] for rider in riders) != worth or type(rows) is not list or len(rows) != many:
        return False
    return all(shows_level_row(one, other, prices, worth, rider, rows[rider]) for rider in range(many))


def shows_level_row(one, other, prices, worth, rider, row):
    if type(row) is not list or not all(type(pair) is tuple and len(pair) == 2 for pair in row):
        return False
    if not all(is_int(each) and is_int(level) for each, level in row):
        return False
    if [each for each, level in row] != agreed_others(one, other, rider):
        return False
    level = dict(row)
    order = agreed_behind(one, other, rider)
    if any(level[each] < prices[each] for each in order) or prices[rider] > worth:
        return False
    if any(level[each] + prices[rider] > worth for each in order):
        return False
    return all(
        level[further] - prices[further] >= level[nearer]
        for nearer, further in itertools.combinations(order, 2)
        if one[nearer][further] == other[nearer][further]
    )


def paper_of(one, other, prices):
    worth, riders = dearest(one, other, prices)
    return (worth, riders, levels(one, other, prices))


def greatest_levels(one, other, prices, worth):
    """The greatest levels that show the worth: by what may still stand further behind."""
    told = []
    for rider in range(len(one)):
        found = {}
        for each in agreed_behind(one, other, rider)[::-1]:
            further = [found[other_one] - prices[other_one] for other_one in found
                       if one[each][other_one] == other[each][other_one]]
            found[each] = min(further + [worth - prices[rider]])
        told.append(sorted(found.items()))
    return told


class Agreeing(unittest.TestCase, Asking):
    def test_written_out(self):
        self.assertTold([0], agreeing(((0,),), ((0,),)))
        self.assertTold([0, 1], agreeing(first_table(2), first_table(2)))
        self.assertTold([0], agreeing(first_table(2), ((0, 5), (-5, 0))))
        self.assertTold([1, 2], agreeing(first_table(3), table_from(3, {(0, 1): 1, (0, 2): 1})))
        self.assertTold([0, 1], agreeing(first_table(3), table_from(3, {(0, 2): 1})))

    def test_against_all_lists(self):
        for one, other in all_pairs():
            self.assertTold(model_agreeing(one, other), agreeing(one, other))

    def test_two_books_that_are_one(self):
        for one, other in all_pairs():
            self.assertTold(list(range(len(one))), agreeing(one, one))

    def test_the_other_way_about(self):
        for one, other in all_pairs():
            self.assertTold(agreeing(one, other), agreeing(other, one))

    def test_no_fewer_hands_lead_there(self):
        for many, size in ((2, 4), (3, 8)):
            start = first_ride(many)
            by_hands = {model_book(start): 0}
            edge = [start]
            for count in range(1, many):
                hands = list(itertools.product(edge, range(many), range(-size, size + 1)))
                edge = [model_handed(ride, rider, far) for ride, rider, far in hands]
                for ride in edge:
                    by_hands.setdefault(model_book(ride), count)
            for book in distances(start, 4):
                self.assertEqual(by_hands[book], many - len(agreeing(model_book(start), book)))

    def test_asking(self):
        for one, other in all_pairs():
            self.check_asking(agreeing, one=one, other=other)


class HandRow(unittest.TestCase, Asking):
    def check_row(self, one, other, staying):
        row = hand_row(one, other, staying)
        self.assertIs(type(row), list)
        for hand in row:
            self.assertIs(type(hand), tuple)
            self.assertTrue(len(hand) == 2 and is_int(hand[0]) and is_int(hand[1]))
            self.assertNotEqual(hand[1], 0)
            self.assertNotIn(hand[0], staying)
        self.assertEqual(len({rider for rider, many in row}), len(row))
        self.assertTold(other, handed_all(one, row))
        return row

    def test_all_lists_that_agree(self):
        for one, other in few_riders(6):
            for staying in agreed_lists(one, other):
                self.check_row(one, other, staying)

    def test_many_riders(self):
        source = random.Random(19)
        for one, other in all_pairs():
            lists = agreed_lists(one, other)
            for staying in [agreeing(one, other)] + source.sample(lists, min(5, len(lists))):
                self.check_row(one, other, staying)

    def test_fewest_hands(self):
        for one, other in all_pairs():
            row = self.check_row(one, other, agreeing(one, other))
            self.assertEqual(len(row), len(one) - len(agreeing(one, other)))

    def test_passing_by_passing(self):
        for start, book, far, ride in small_pairs():
            for staying in agreed_lists(model_book(start), book)[:6]:
                at = start
                for rider, many in hand_row(model_book(start), book, staying):
                    at = model_handed(at, rider, many)
                self.assertEqual(model_book(at), book)

    def test_far(self):
        for far in (10 ** 10, FAR_NUMBER, -FAR_NUMBER):
            book = ((0, far), (-far, 0))
            self.assertTold([(1, -far)], hand_row(first_table(2), book, [0]))
            self.assertTold([(0, far)], hand_row(first_table(2), book, [1]))
        source = random.Random(23)
        for many in (3, 7, 12):
            one, other = (model_book(random_ride(source, many, 10 ** 10)) for _ in range(2))
            for rider in range(many):
                self.check_row(one, other, [rider])

    def test_book_and_itself_needs_no_hand(self):
        for one, other in all_pairs():
            self.assertTold([], hand_row(one, one, list(range(len(one)))))
        self.assertTold([], hand_row(((0,),), ((0,),), [0]))
        for staying in rising_lists(4):
            self.check_row(first_table(4), first_table(4), staying)

    def test_least_pair_that_does_not_agree_is_refused(self):
        refused = 0
        for one, other in few_riders(6):
            for staying in rising_lists(len(one)):
                pairs = itertools.combinations(staying, 2)
                wrong = sorted((i, j) for i, j in pairs if one[i][j] != other[i][j])
                if wrong:
                    refused += 1
                    self.check_refused(one, other, staying, wrong[0])
        self.assertGreater(refused, 1000)

    def check_refused(self, one, other, staying, pair):
        for handed_in in (staying, tuple(staying)):
            with self.assertRaises(NotAgreed) as caught:
                hand_row(one, other, handed_in)
            self.assertTold(pair, (caught.exception.one, caught.exception.other))

    def test_refused_written_out(self):
        other = table_from(3, {(0, 2): 1})
        self.check_refused(first_table(3), other, [0, 2], (0, 2))
        self.check_refused(first_table(3), other, [0, 1, 2], (0, 2))
        self.check_refused(first_table(3), table_from(3, {(0, 1): 1, (0, 2): 1}), [0, 1, 2], (0, 1))
        self.check_refused(first_table(3), table_from(3, {(0, 2): 1, (1, 2): 1}), [0, 1, 2], (0, 2))

    def test_asking(self):
        for one, other in all_pairs():
            staying = agreed_lists(one, other)[-1]
            self.check_asking(hand_row, one=one, other=other, staying=staying)
            self.assertTold(hand_row(one, other, staying), hand_row(one, other, tuple(staying)))
        staying = [0, 1]
        with self.assertRaises(NotAgreed):
            hand_row(staying=staying, one=first_table(2), other=((0, 1), (-1, 0)))
        self.assertTold([0, 1], staying)


class Dearest(unittest.TestCase, Asking):
    def test_written_out(self):
        first = first_table(3)
        other = table_from(3, {(0, 1): 1, (0, 2): 1})
        self.assertTold((7, [0]), dearest(first, other, [7, 3, 3]))
        self.assertTold((6, [1, 2]), dearest(first, other, [5, 3, 3]))
        self.assertTold((6, [0]), dearest(first, other, [6, 3, 3]))
        self.assertTold((3, [1]), dearest(first, other, [0, 3, 0]))
        self.assertTold((3, [1, 2]), dearest(first, other, [0, 0, 3]))
        self.assertTold((0, [0]), dearest(first, other, [0, 0, 0]))
        self.assertTold((5, [0, 1]), dearest(first_table(2), first_table(2), [0, 5]))
        self.assertTold((5, [0]), dearest(first_table(2), first_table(2), [5, 0]))
        self.assertTold((9, [0]), dearest(((0,),), ((0,),), [9]))
        self.assertTold((0, [0]), dearest(((0,),), ((0,),), [0]))

    def test_against_all_lists(self):
        for one, other, prices in with_prices(all_pairs()[::2]):
            self.assertTold(model_dearest(one, other, prices), dearest(one, other, prices))

    def test_all_prices_of_few_riders(self):
        for one, other in few_riders(4)[::4]:
            for prices in itertools.product((0, 1, 2), repeat=len(one)):
                self.assertTold(model_dearest(one, other, prices), dearest(one, other, prices))

    def test_asking(self):
        for one, other, prices in with_prices(all_pairs()[::3]):
            self.check_asking(dearest, one=one, other=other, prices=prices)
            self.assertTold(dearest(one, other, prices), dearest(one, other, tuple(prices)))


class Levels(unittest.TestCase, Asking):
    def test_written_out(self):
        first = first_table(3)
        self.assertTold([[]], levels(((0,),), ((0,),), [5]))
        self.assertTold([[], []], levels(first_table(2), ((0, 1), (-1, 0)), [5, 6]))
        self.assertTold([[(1, 6)], [(0, 5)]], levels(first_table(2), first_table(2), [5, 6]))
        self.assertTold([[(1, 2), (2, 6)], [(0, 5), (2, 4)], [(0, 1), (1, 3)]], levels(first, first, [1, 2, 4]))

    def test_against_all_rows(self):
        for one, other, prices in with_prices(few_riders(8)):
            expected = [model_level_row(one, other, prices, rider) for rider in range(len(one))]
            self.assertTold(expected, levels(one, other, prices))

    def test_twelve_riders(self):
        for one, other in [pair for pair in all_pairs() if len(pair[0]) == 12][::6]:
            prices = [7, 0, 3, 10 ** 6, 1, 0, 2, 9, 9, 4, 0, 5]
            told = levels(one, other, prices)
            self.assertEqual(len(told), 12)
            for rider in (0, 5, 11):
                self.assertTold(model_level_row(one, other, prices, rider), told[rider])

    def test_asking(self):
        for one, other, prices in with_prices(all_pairs()[::3]):
            self.check_asking(levels, one=one, other=other, prices=prices)
            self.assertTold(levels(one, other, prices), levels(one, other, tuple(prices)))


class ShowsDearest(unittest.TestCase, Asking):
    def check_thing(self, one, other, prices, thing):
        expected = model_shows_dearest(one, other, prices, thing)
        self.assertIs(shows_dearest(one, other, prices, thing), expected, repr((one, other, prices, thing)))
        return expected

    def test_paper_of_dearest_and_levels(self):
        for one, other, prices in with_prices(all_pairs()):
            self.assertIs(shows_dearest(one, other, prices, paper_of(one, other, prices)), True)
            self.assertIs(shows_dearest(one, other, tuple(prices), paper_of(one, other, prices)), True)

    def test_all_riders_that_have_the_worth(self):
        for one, other, prices in with_prices(few_riders(5)):
            worth, riders, rows = paper_of(one, other, prices)
            for others in rising_lists(len(one)):
                has_it = do_agree(one, other, others) and sum(prices[rider] for rider in others) == worth
                self.assertIs(shows_dearest(one, other, prices, (worth, others, rows)), has_it)

    def test_greater_levels(self):
        greater = 0
        for one, other, prices in with_prices(all_pairs()[::2]):
            worth, riders, rows = paper_of(one, other, prices)
            most = greatest_levels(one, other, prices, worth)
            greater += most != rows
            self.assertIs(shows_dearest(one, other, prices, (worth, riders, most)), True)
            for at, row in enumerate(most if len(one) <= 6 else []):
                for pair in range(len(row)):
                    changed = [list(each) for each in most]
                    changed[at][pair] = (row[pair][0], row[pair][1] + 1)
                    self.assertIs(shows_dearest(one, other, prices, (worth, riders, changed)), False)
                    changed[at][pair] = (row[pair][0], rows[at][pair][1] - 1)
                    self.assertIs(shows_dearest(one, other, prices, (worth, riders, changed)), False)
        self.assertGreater(greater, 100)

    def test_levels_between(self):
        source = random.Random(29)
        shown = []
        for one, other, prices in with_prices(few_riders(7)):
            worth, riders, rows = paper_of(one, other, prices)
            most = greatest_levels(one, other, prices, worth)
            for _ in range(3):
                mixed = [
                    [(low[0], source.randint(low[1], high[1])) for low, high in zip(lows, highs)]
                    for lows, highs in zip(rows, most)
                ]
                shown.append(self.check_thing(one, other, prices, (worth, riders, mixed)))
        self.assertGreater(shown.count(True), 50)
        self.assertGreater(shown.count(False), 50)

    def test_lesser_worth_is_not_shown(self):
        for one, other, prices in with_prices(few_riders(5)):
            worth, riders, rows = paper_of(one, other, prices)
            for others in agreed_lists(one, other):
                less = sum(prices[rider] for rider in others)
                if less < worth:
                    self.assertIs(shows_dearest(one, other, prices, (less, others, rows)), False)
                    least = [[(each, prices[each]) for each, level in row] for row in rows]
                    self.check_thing(one, other, prices, (less, others, least))

    def test_one_thing_otherwise(self):
        for one, other, prices in with_prices(few_riders(4)[::5]):
            for thing in one_otherwise(paper_of(one, other, prices)):
                self.check_thing(one, other, prices, thing)

    def test_one_kind_otherwise_is_never_shown(self):
        first = first_table(3)
        prices = [1, 0, 1]
        right = (2, [0, 2], [[(1, 0), (2, 1)], [(0, 2), (2, 1)], [(0, 1), (1, 1)]])
        self.assertIs(shows_dearest(first, first, prices, right), True)
        for thing in (
            (True, [0], right[2]), (2, (0, 2), right[2]), (2, [False, 2], right[2]), (2, [0, 2], tuple(right[2])),
            (2, [0, 2], [tuple(right[2][0])] + right[2][1:]), (2, [0, 2], [[[1, 0], (2, 1)]] + right[2][1:]),
            (2, [0, 2], [[(True, 0), (2, 1)]] + right[2][1:]), (2, [0, 2], [[(1, False), (2, 1)]] + right[2][1:]),
            (2, [0, 2], [[(1, None), (2, 1)]] + right[2][1:]), (2, [0, 2], [[(1, "0"), (2, 1)]] + right[2][1:]),
            (2, [0, 2], [[(2, 1), (1, 0)]] + right[2][1:]), (2, [2, 0], right[2]), (2, [0, 2, 2], right[2]),
            (2, [0, 2], right[2] + [[]]), (2, [0, 2], right[2][:2]), (2, [0, 2]), list(right), right + (0,),
            ("2", [0, 2], right[2]), (None, [0, 2], right[2]), (2, [], right[2]), (2, None, right[2]),
            (2, [0, 2], None), (2, [0, -1], right[2]), (2, [0, 3], right[2]), (2, ["0", 2], right[2]),
        ):
            self.assertIs(shows_dearest(first, first, prices, thing), False, repr(thing))

    def test_no_riders_show_nothing(self):
        self.assertIs(shows_dearest(((0,),), ((0,),), [0], (0, [0], [[]])), True)
        self.assertIs(shows_dearest(((0,),), ((0,),), [0], (0, [], [[]])), False)
        self.assertIs(shows_dearest(((0,),), ((0,),), [5], (0, [], [[]])), False)

    def test_strange_things(self):
        for many in (1, 2, 3):
            first = first_table(many)
            for thing in STRANGE:
                self.assertIs(shows_dearest(first, first, [0] * many, thing), False)
                self.check_thing(first, first, [0] * many, (0, [0], thing))
                self.check_thing(first, first, [0] * many, (0, thing, levels(first, first, [0] * many)))
                self.check_thing(first, first, [0] * many, (thing, [0], levels(first, first, [0] * many)))

    def test_asking(self):
        for one, other, prices in with_prices(few_riders(6)[::3]):
            paper = paper_of(one, other, prices)
            self.check_asking(shows_dearest, one=one, other=other, prices=prices, thing=paper)
            self.check_asking(shows_dearest, one=one, other=other, prices=prices, thing=list(paper))


if __name__ == "__main__":
    unittest.main()
