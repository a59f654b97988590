"""Slow, plain readings of the document, and samples, for all tests."""

import copy
import inspect
import itertools
import random

FAR_NUMBER = 10 ** 12


def table_from(many, tallies):
    """The table with these tallies of (i, j), i below j; 0 where none is told."""
    rows = [[0] * many for _ in range(many)]
    for (i, j), tally in tallies.items():
        rows[i][j] = tally
        rows[j][i] = -tally
    return tuple(tuple(row) for row in rows)


def all_tables(many, low, high):
    pairs = list(itertools.combinations(range(many), 2))
    for tallies in itertools.product(range(low, high + 1), repeat=len(pairs)):
        yield table_from(many, dict(zip(pairs, tallies)))


def unfit_triples(table):
    return [
        (i, j, l)
        for i, j, l in itertools.combinations(range(len(table)), 3)
        if table[i][l] - table[i][j] - table[j][l] not in (0, 1)
    ]


def model_book(ride):
    many = len(ride)
    pairs = itertools.combinations(range(many), 2)
    return table_from(many, {(i, j): (ride[i] - ride[j]) // many for i, j in pairs})


def first_ride(many):
    return tuple(range(0, -many, -1))


def model_next(ride):
    many = len(ride)
    return [
        (i, j)
        for i in range(many)
        for j in range(many)
        if i != j and (ride[j] - ride[i] - 1) % many == 0
    ]


def model_passed(ride, pair):
    places = list(ride)
    places[pair[0]] += 1
    places[pair[1]] -= 1
    return tuple(places)


def walked(source, ride, length):
    """A row of passings from a ride, and the ride behind it."""
    row = []
    for _ in range(length):
        row.append(source.choice(model_next(ride)))
        ride = model_passed(ride, row[-1])
    return row, ride


def distances(ride, depth):
    """All books within so many passings of a ride's: {book: (passings, ride)}."""
    found = {model_book(ride): (0, ride)}
    edge = [ride]
    for far in range(1, depth + 1):
        following = []
        for at in edge:
            for pair in model_next(at):
                beyond = model_passed(at, pair)
                if model_book(beyond) not in found:
                    found[model_book(beyond)] = (far, beyond)
                    following.append(beyond)
        edge = following
    return found


def model_apart(one, other):
    return sum(abs(one[i][j] - other[i][j]) for i, j in itertools.combinations(range(len(one)), 2))


def all_ways(ride, target, length):
    """All ways of just so many passings from a ride to a book, each gone through."""
    if length == 0:
        return [[]] if model_book(ride) == target else []
    if model_apart(model_book(ride), target) > length:
        return []
    return [
        [pair] + way
        for pair in model_next(ride)
        for way in all_ways(model_passed(ride, pair), target, length - 1)
    ]


def random_ride(source, many, rounds):
    rests = list(range(many))
    source.shuffle(rests)
    return tuple(many * source.randint(-rounds, rounds) + rest for rest in rests)


def sample_rides():
    """Rides of 1 to 12 riders and a few more, near and far."""
    source = random.Random(5)
    for many in list(range(1, 13)) + [14]:
        yield first_ride(many)
        for rounds in (0, 1, 3, FAR_NUMBER // many):
            for _ in range(4):
                yield random_ride(source, many, rounds)


def sample_pairs():
    """Pairs of rides of as many riders, near and far."""
    rides = list(sample_rides())
    return [(one, other) for one, other in zip(rides, rides[1:]) if len(one) == len(other)]


def model_handed(ride, rider, many):
    """The ride behind a hand, passing by passing."""
    for _ in range(abs(many) if len(ride) > 1 else 0):
        if many > 0:
            pair = [(i, j) for i, j in model_next(ride) if i == rider][0]
        else:
            pair = [(i, j) for i, j in model_next(ride) if j == rider][0]
        ride = model_passed(ride, pair)
    return ride


def loose_book(places, around):
    """The book of riders anywhere on a ring of so many spots, no two at one spot."""
    many = len(places)
    pairs = itertools.combinations(range(many), 2)
    return table_from(many, {(i, j): (places[i] - places[j]) // around for i, j in pairs})


def loosely_moved_pairs():
    """Pairs of books of 1 to 12 riders and a few more, of whom some agree: some riders were moved, near or far."""
    source = random.Random(9)
    for many in list(range(1, 13)) + [13]:
        around = 100 * many
        for rounds in (0, 1, 4, FAR_NUMBER // 2):
            for moved in sorted({0, 1, many // 3, many // 2, many - 1}):
                spots = source.sample(range(around), 2 * many)
                one = [spot + around * source.randint(-rounds, rounds) for spot in spots[:many]]
                other = list(one)
                for rider in source.sample(range(many), min(moved, many)):
                    other[rider] = spots[many + rider] + around * source.randint(-rounds, rounds)
                yield loose_book(one, around), loose_book(other, around)


def small_pairs():
    """Pairs (ride, book, passings, ride of that book), near enough to go through all ways."""
    source = random.Random(8)
    for many, depth in ((1, 3), (2, 8), (3, 8), (4, 6), (5, 5), (6, 4)):
        for start in (first_ride(many), random_ride(source, many, 2), random_ride(source, many, FAR_NUMBER)):
            found = sorted(distances(start, depth).items())
            for book, (far, ride) in source.sample(found, min(12, len(found))):
                yield start, book, far, ride


def nearer_walk(ride, target, source):
    """A way of as few as can be from a ride to a book, any, and the rides on it."""
    way = []
    rides = [ride]
    while model_book(rides[-1]) != target:
        book = model_book(rides[-1])
        way.append(source.choice([(i, j) for i, j in model_next(rides[-1]) if target[i][j] > book[i][j]]))
        rides.append(model_passed(rides[-1], way[-1]))
    return way, rides


STRANGE = [
    None, True, False, 0, 1, -1, 7, FAR_NUMBER, "", "0", "ride", "((0,),)", (), [], [0], (None,), ("",), (True,),
    (False,), ((),), ([],), [()], [[]], [None], ("ride", (0,)), ((None,),), (("0",),), ((False,),), [[0]], [(0,)],
    ([0],), (((0,),),), ((((((0,),),),),),), [[[[[[0]]]]]], ((0, 0),), ((0,), (0,)), (0, 0), [0, 0],
    ((0, 1), None), ((0, 1), (-1,)), ((0, 1), [-1, 0]), ((0, 1), 5), ((0, 1), "-1"), (0, "1"), (0, None), (0, (1,)),
]


def other_kinds(thing):
    """The thing with one part put into another kind of value, wherever that part stands."""
    if isinstance(thing, bool) or not isinstance(thing, (int, list, tuple)):
        return
    if isinstance(thing, int):
        yield from (bool(thing), not thing, None, str(thing), [thing], (thing,))
        return
    yield list(thing) if isinstance(thing, tuple) else tuple(thing)
    for at, part in enumerate(thing):
        for changed in other_kinds(part):
            parts = list(thing)
            parts[at] = changed
            yield type(thing)(parts)


def other_lengths(thing):
    """The thing with a part out or twice, in it or in one of its parts."""
    if not isinstance(thing, (list, tuple)):
        return
    for at, part in enumerate(thing):
        yield thing[:at] + thing[at + 1:]
        yield thing[:at] + thing[at:at + 1] + thing[at:]
        for changed in other_lengths(part):
            yield thing[:at] + type(thing)([changed]) + thing[at + 1:]


def others_by_one(thing):
    """The thing with one number 1 more or less, or two parts side by side exchanged, wherever these stand."""
    if isinstance(thing, int) and not isinstance(thing, bool):
        yield from (thing + 1, thing - 1)
    if not isinstance(thing, (list, tuple)):
        return
    for at, part in enumerate(thing):
        if at > 0:
            yield thing[:at - 1] + thing[at:at + 1] + thing[at - 1:at] + thing[at + 1:]
        for changed in others_by_one(part):
            yield thing[:at] + type(thing)([changed]) + thing[at + 1:]


def one_otherwise(thing):
    """Things that aren't this one by one thing alone, at any depth."""
    found = [*other_kinds(thing), *other_lengths(thing), *others_by_one(thing)]
    return [other for other in found if not same_kind(other, thing)]


def signs_otherwise(text, signs=" \n-+0159:*by,.x"):
    """All texts with one sign out, in, or another one."""
    for at in range(len(text) + 1):
        for sign in signs:
            yield text[:at] + sign + text[at:]
            if at < len(text):
                yield text[:at] + sign + text[at + 1:]
        yield text[:at] + text[at + 1:]


def is_int(thing):
    return type(thing) is int


def lists_in(thing):
    """All lists that a told thing is made of."""
    if isinstance(thing, list):
        yield thing
    if isinstance(thing, (list, tuple)):
        for part in thing:
            yield from lists_in(part)


def same_kind(one, other):
    """== that also tells True from 1, and a list from a tuple, wherever they stand."""
    if type(one) is not type(other):
        return False
    if isinstance(one, (list, tuple)):
        return len(one) == len(other) and all(same_kind(a, b) for a, b in zip(one, other))
    return one == other


def model_is_word(many, thing):
    if type(thing) is not tuple or len(thing) != 4:
        return False
    i, j, low, high = thing
    if not (is_int(i) and is_int(j) and i in range(many) and j in range(many) and i != j):
        return False
    if not all(end is None or is_int(end) for end in (low, high)):
        return False
    return low is None or high is None or not low > high


def model_keeps(book, words):
    for i, j, low, high in words:
        if low is not None and not book[i][j] >= low or high is not None and not book[i][j] <= high:
            return False
    return True


def told_by(word, end):
    """What an end tells, (a, b, number), by the document's table."""
    i, j, low, high = word
    if end == "high":
        return (i, j, high + 1) if i < j else (i, j, high)
    return (j, i, -low) if i < j else (j, i, 1 - low)


def model_shows_ring(words, thing):
    if type(thing) is not list or len(thing) < 2:
        return False
    told = []
    for part in thing:
        if type(part) is not tuple or len(part) != 2 or not is_int(part[0]) or type(part[1]) is not str:
            return False
        if part[0] not in range(len(words)) or part[1] not in ("low", "high"):
            return False
        if words[part[0]][2 if part[1] == "low" else 3] is None:
            return False
        told.append(told_by(words[part[0]], part[1]))
    for at, (a, b, number) in enumerate(told):
        if told[(at + 1) % len(told)][0] != b:
            return False
    return len({a for a, b, number in told}) == len(told) and sum(number for a, b, number in told) <= 0


def model_is_book(many, thing):
    if type(thing) is not tuple or len(thing) != many:
        return False
    if not all(type(row) is tuple and len(row) == many and all(is_int(part) for part in row) for row in thing):
        return False
    if any(thing[i][j] != -thing[j][i] for i in range(many) for j in range(many)):
        return False
    return not unfit_triples(thing)


def random_words(source, many, length, size):
    """Words of any kind, of riders, two at least."""
    words = []
    for _ in range(length):
        i, j = source.sample(range(many), 2)
        low, high = sorted(source.randint(-size, size) for _ in range(2))
        words.append((i, j, low if source.random() < 0.6 else None, high if source.random() < 0.6 else None))
    return words


def kept_words(source, book, length, slack):
    """Words that a book keeps, with so much slack at the most, by chance."""
    words = []
    for _ in range(length):
        i, j = source.sample(range(len(book)), 2)
        low = book[i][j] - source.randint(0, slack)
        high = book[i][j] + source.randint(0, slack)
        words.append((i, j, low if source.random() < 0.7 else None, high if source.random() < 0.7 else None))
    return words


def broken_words(source, words, book):
    """These words, one of which the book doesn't keep, by little."""
    words = list(words)
    at = source.randrange(len(words))
    i, j = words[at][:2]
    by = source.randint(1, 2)
    words[at] = (i, j, book[i][j] + by, None) if source.random() < 0.5 else (i, j, None, book[i][j] - by)
    return words


def near_books(many, rounds):
    """All books of few riders, of rides within so many rounds of one another."""
    found = set()
    for order in itertools.permutations(range(1, many)):
        for turns in itertools.product(range(-rounds, rounds + 1), repeat=many - 1):
            found.add(model_book((0,) + tuple(rest + many * turn for rest, turn in zip(order, turns))))
    return sorted(found)


def parameter_names(function):
    return list(inspect.signature(function).parameters)


class Asking:
    """What holds of every function: mixed into test cases."""

    def assertTold(self, expected, told):
        self.assertTrue(same_kind(expected, told), f"expected {expected!r}, told {told!r}")

    def check_asking(self, function, **arguments):
        """By places and by names the same is told, twice, nothing handed in is changed."""
        before = copy.deepcopy(arguments)
        told = function(**arguments)
        self.assertTold(told, function(*arguments.values()))
        self.assertTold(before, arguments)
        self.assertEqual(list(arguments), parameter_names(function))
        self.check_own_lists(function, arguments, told)

    def check_own_lists(self, function, arguments, told):
        """No two told lists are one, none is one handed in, and changing them changes nothing else."""
        kept = copy.deepcopy(told)
        again = function(**arguments)
        lists = [*lists_in(told), *lists_in(again)]
        ids = {id(each) for each in lists}
        self.assertEqual(len(ids), len(lists))
        self.assertFalse(ids & {id(each) for each in lists_in(tuple(arguments.values()))})
        for each in list(lists_in(again)):
            each.append("changed")
        self.assertTold(kept, told)
        for each in list(lists_in(told)):
            each.clear()
        self.assertTold(kept, function(**arguments))
