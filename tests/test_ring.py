import copy
import random
import unittest

from tallyring.court import Court
from tallyring.errors import NoDeed, NotNext
from tallyring.fewest import apart, least_way
from tallyring.hands import handed
from tallyring.otherwise import left_out, mirrored, put_in
from tallyring.ring import Ring
from tallyring.rides import ride_of
from tallyring.tables import first_table, is_book
from tests.helpers import (
    FAR_NUMBER, Asking, first_ride, model_apart, model_book, model_handed, model_next, model_passed, parameter_names,
    random_ride, sample_rides, walked,
)

ASKS = ("book", "ride", "passings", "hands", "deeds", "saved", "log")


class PlainRing:
    """A ring by plain counting: all rides, passings and hands behind each deed that stands, and the log."""

    def __init__(self, ride):
        self.rides = [ride]
        self.counts = [(0, 0)]
        self.log = []

    def note(self, word):
        self.log += [("in", word), ("out", word)]

    def stand(self, word, ride, passings, hands):
        self.note(word)
        self.rides.append(ride)
        self.counts.append((self.counts[-1][0] + passings, self.counts[-1][1] + hands))

    def undo(self):
        self.note("undo")
        if len(self.rides) == 1:
            return False
        self.rides.pop()
        self.counts.pop()
        return True

    def as_of(self, many):
        other = PlainRing(self.rides[0])
        other.rides = self.rides[:many + 1]
        other.counts = self.counts[:many + 1]
        return other


class RingCase(unittest.TestCase, Asking):
    def check_ring(self, ring, plain):
        """Each ask beside plain counting."""
        ride = plain.rides[-1]
        book = model_book(ride)
        passings, hands = plain.counts[-1]
        many = len(ride)
        self.assertTold(book, ring.book())
        self.assertTold(tuple(place - ride[0] for place in ride), ring.ride())
        self.assertTold(passings, ring.passings())
        self.assertTold(hands, ring.hands())
        self.assertTold(len(plain.rides) - 1, ring.deeds())
        self.assertTold(passings - model_apart(model_book(plain.rides[0]), book), ring.saved())
        self.assertTold(plain.log, ring.log())
        self.assertTold(many, len(ring))
        self.assertIs(bool(ring), True)
        written = f"Ring({many} riders, {model_apart(model_book(first_ride(many)), book)} apart)"
        self.assertTold([written, written], [repr(ring), str(ring)])
        for one in range(many):
            self.assertTold(list(book[one]), [ring.tally(one, other) for other in range(many)])

    def check_refused(self, ring, plain, pair, deed):
        with self.assertRaises(NotNext) as caught:
            deed()
        self.assertEqual(vars(caught.exception), {"one": pair[0], "other": pair[1]})
        self.check_ring(ring, plain)


class Deeds(RingCase):
    def test_begun(self):
        for ride in sample_rides():
            self.check_ring(Ring(model_book(ride)), PlainRing(ride))

    def test_come_by(self):
        for ride in sample_rides():
            for pair in model_next(ride):
                ring, plain = Ring(model_book(ride)), PlainRing(ride)
                self.assertIsNone(ring.come_by(*pair))
                plain.stand("come_by", model_passed(ride, pair), 1, 0)
                self.check_ring(ring, plain)

    def test_come_by_refused(self):
        for ride in sample_rides():
            many = len(ride)
            for one in range(many):
                for other in (0, many // 2, many - 1, -1, many):
                    if (one, other) not in model_next(ride):
                        ring, plain = Ring(model_book(ride)), PlainRing(ride)
                        plain.note("come_by")
                        self.check_refused(ring, plain, (one, other), lambda: ring.come_by(one, other))

    def test_hand(self):
        for ride in sample_rides():
            for many in (0, 1, -1, 2, -3, len(ride), -2 * len(ride)):
                for rider in sorted({0, len(ride) - 1}):
                    ring, plain = Ring(model_book(ride)), PlainRing(ride)
                    self.assertIsNone(ring.hand(rider, many))
                    plain.stand("hand", model_handed(ride, rider, many), abs(many) if len(ride) > 1 else 0, 1)
                    self.check_ring(ring, plain)

    def test_far_hands(self):
        for many in (2, 3, 12):
            ring = Ring(first_table(many))
            ring.hand(0, FAR_NUMBER)
            ring.hand(many - 1, -FAR_NUMBER)
            expected = handed(handed(first_table(many), 0, FAR_NUMBER), many - 1, -FAR_NUMBER)
            self.assertTold(expected, ring.book())
            self.assertTold(2 * FAR_NUMBER, ring.passings())
            self.assertTold(2 * FAR_NUMBER - apart(first_table(many), expected), ring.saved())
            self.assertEqual(repr(ring), f"Ring({many} riders, {apart(first_table(many), expected)} apart)")
            ring.hand(0, -FAR_NUMBER)
            ring.undo()
            self.assertTold(expected, ring.book())

    def test_one_rider_alone(self):
        ring, plain = Ring(((0,),)), PlainRing((0,))
        for many in (5, -FAR_NUMBER, 0):
            ring.hand(0, many)
            plain.stand("hand", (0,), 0, 1)
            self.check_ring(ring, plain)
        ring.lead([])
        plain.stand("lead", (0,), 0, 0)
        self.check_ring(ring, plain)
        plain.note("come_by")
        self.check_refused(ring, plain, (0, 0), lambda: ring.come_by(0, 0))
        for _ in range(4):
            self.assertIs(ring.undo(), plain.undo())
            self.check_ring(ring, plain)
        self.assertIs(ring.undo(), False)
        self.assertEqual(repr(ring), "Ring(1 riders, 0 apart)")

    def test_lead(self):
        source = random.Random(3)
        for ride in sample_rides():
            for length in (0, 1, 2, 7, 40) if len(ride) > 1 else (0,):
                row, beyond = walked(source, ride, length)
                for handed_in in (row, tuple(row)):
                    ring, plain = Ring(model_book(ride)), PlainRing(ride)
                    self.assertIsNone(ring.lead(handed_in))
                    plain.stand("lead", beyond, length, 0)
                    self.check_ring(ring, plain)

    def test_long_row(self):
        row, beyond = walked(random.Random(4), first_ride(12), 210)
        ring = Ring(first_table(12))
        ring.lead(row)
        self.assertTold(model_book(beyond), ring.book())
        self.assertTold((210, 1), (ring.passings(), ring.deeds()))
        self.assertIs(ring.undo(), True)
        self.assertTold(first_table(12), ring.book())

    def test_lead_refused(self):
        source = random.Random(5)
        for ride in sample_rides():
            row, beyond = walked(source, ride, 5 if len(ride) > 1 else 0)
            wrong = (0, 0)
            for at in range(len(row) + 1):
                ring, plain = Ring(model_book(ride)), PlainRing(ride)
                # Another one that can't be stands behind the first of these.
                part = row[:at] + [wrong] + row[at:] + [(-1, 0)]
                plain.note("lead")
                self.check_refused(ring, plain, wrong, lambda: ring.lead(part))

    def test_undo_to_the_first_and_once_more(self):
        source = random.Random(6)
        for ride in sample_rides():
            ring, plain = Ring(model_book(ride)), PlainRing(ride)
            for many in (3, 0, -2):
                rider = source.randrange(len(ride))
                ring.hand(rider, many)
                size = abs(many) if len(ride) > 1 else 0
                plain.stand("hand", model_handed(plain.rides[-1], rider, many), size, 1)
            for _ in range(5):
                self.assertIs(ring.undo(), plain.undo())
                self.check_ring(ring, plain)
            self.assertTold(model_book(ride), ring.book())

    def test_asks_begin_nothing(self):
        ring = Ring(first_table(3))
        ring.hand(0, 4)
        before = ring.log()
        for name in ASKS:
            getattr(ring, name)()
        ring.tally(0, 1)
        ring.as_of(0)
        ring.twin()
        with self.assertRaises(NoDeed):
            ring.as_of(7)
        self.assertTold([("in", "hand"), ("out", "hand")], before)
        self.assertTold(before, ring.log())

    def test_log_written_out(self):
        ring = Ring(first_table(3))
        ring.come_by(0, 2)
        with self.assertRaises(NotNext):
            ring.come_by(0, 2)
        ring.hand(1, 0)
        ring.lead([])
        with self.assertRaises(NotNext):
            ring.lead([(0, 0)])
        for _ in range(4):
            ring.undo()
        words = ["come_by", "come_by", "hand", "lead", "lead", "undo", "undo", "undo", "undo"]
        self.assertTold([(side, word) for word in words for side in ("in", "out")], ring.log())


class ManyDeeds(RingCase):
    def do_one(self, source, ring, plain):
        ride = plain.rides[-1]
        rider = source.randrange(len(ride))
        choice = source.choice(("come_by", "come_by", "hand", "lead", "undo", "refused", "lead refused"))
        if choice == "undo":
            self.assertIs(ring.undo(), plain.undo())
        elif choice == "hand" or len(ride) == 1:
            many = source.randint(-9, 9)
            self.assertIsNone(ring.hand(rider, many))
            plain.stand("hand", model_handed(ride, rider, many), abs(many) if len(ride) > 1 else 0, 1)
        elif choice == "come_by":
            pair = source.choice(model_next(ride))
            self.assertIsNone(ring.come_by(*pair))
            plain.stand("come_by", model_passed(ride, pair), 1, 0)
        elif choice == "lead":
            row, beyond = walked(source, ride, source.randrange(6))
            self.assertIsNone(ring.lead(row))
            plain.stand("lead", beyond, len(row), 0)
        else:
            word = "come_by" if choice == "refused" else "lead"
            plain.note(word)
            with self.assertRaises(NotNext):
                ring.come_by(rider, rider) if word == "come_by" else ring.lead(walked(source, ride, 2)[0] + [(0, 0)])

    def rings(self, length):
        """Pairs of a Ring and a PlainRing to which the same was done, each checked behind each deed."""
        source = random.Random(7)
        for many in (1, 2, 3, 4, 6, 12, 13):
            for ride in (first_ride(many), random_ride(source, many, 3), random_ride(source, many, FAR_NUMBER)):
                ring, plain = Ring(model_book(ride)), PlainRing(ride)
                for _ in range(length):
                    self.do_one(source, ring, plain)
                    self.check_ring(ring, plain)
                yield source, ring, plain

    def test_beside_plain_counting(self):
        for source, ring, plain in self.rings(70):
            self.assertGreaterEqual(ring.saved(), 0)

    def test_as_of_each_number(self):
        for source, ring, plain in self.rings(20):
            for many in range(ring.deeds() + 1):
                self.check_ring(ring.as_of(many), plain.as_of(many))
                self.assertTold([], ring.as_of(many).log())
            self.check_ring(ring, plain)

    def test_as_of_what_there_is_not(self):
        for source, ring, plain in self.rings(6):
            for many in (-1, -2, -FAR_NUMBER, ring.deeds() + 1, ring.deeds() + 2, FAR_NUMBER):
                with self.assertRaises(NoDeed) as caught:
                    ring.as_of(many)
                self.assertEqual(vars(caught.exception), {"many": many})
            self.check_ring(ring, plain)

    def test_as_of_is_taken_back_by_itself(self):
        for source, ring, plain in self.rings(12):
            many = ring.deeds() // 2
            other, plain_other = ring.as_of(many), plain.as_of(many)
            for _ in range(many + 2):
                self.assertIs(other.undo(), plain_other.undo())
                self.check_ring(other, plain_other)
            self.check_ring(ring, plain)

    def test_twins_go_on_by_themselves(self):
        for source, ring, plain in self.rings(8):
            other, plain_other = ring.twin(), plain.as_of(len(plain.rides) - 1)
            self.check_ring(other, plain_other)
            self.assertTrue(ring == other)
            for _ in range(6):
                self.do_one(source, other, plain_other)
                self.check_ring(other, plain_other)
                self.check_ring(ring, plain)
                self.do_one(source, ring, plain)
                self.check_ring(other, plain_other)
                self.check_ring(ring, plain)

    def test_saved(self):
        for source, ring, plain in self.rings(10):
            if apart(ring.book(), first_table(len(ring))) <= 200:
                straight = Ring(first_table(len(ring)))
                straight.lead(least_way(first_table(len(ring)), ring.book()))
                self.assertTold(0, straight.saved())
        ring = Ring(first_table(3))
        for pair, saved in (((0, 2), 0), ((2, 0), 2), ((2, 1), 2), ((1, 2), 4), ((0, 2), 4)):
            ring.come_by(*pair)
            self.assertTold(saved, ring.saved())

    def test_told_otherwise(self):
        for source, ring, plain in self.rings(10):
            book = ring.book()
            self.assertTrue(is_book(book))
            self.assertTold(("ride", ring.ride()), ride_of(book))
            self.assertTold(book, left_out(put_in(book, 0), len(ring)))
            self.assertTrue(Ring(mirrored(mirrored(book))) == ring)


class TwoRings(RingCase):
    def test_equal_by_books_alone(self):
        one, other = Ring(first_table(3)), Ring(first_table(3))
        self.assertIs(one == other, True)
        self.assertIs(one != other, False)
        one.come_by(0, 2)
        self.assertIs(one == other, False)
        self.assertIs(one != other, True)
        other.hand(0, 1)
        self.assertIs(one == other, True)
        self.assertIs(one == Ring(one.book()), True)
        other.undo()
        self.assertIs(one == other, False)
        one.undo()
        self.assertIs(one == other, True)
        self.assertIs(one == one, True)

    def test_of_other_riders(self):
        for many in range(1, 5):
            for other in range(1, 5):
                self.assertIs(Ring(first_table(many)) == Ring(first_table(other)), many == other)

    def test_of_another_class(self):
        ring = Ring(first_table(2))
        for thing in (first_table(2), None, 2, "", repr(ring), [], Court(2), [ring], object()):
            self.assertIs(ring == thing, False)
            self.assertIs(thing == ring, False)
            self.assertIs(ring != thing, True)

    def test_repr(self):
        ring = Ring(first_table(3))
        self.assertEqual(repr(ring), "Ring(3 riders, 0 apart)")
        ring.hand(1, 5)
        self.assertEqual(repr(ring), "Ring(3 riders, 5 apart)")
        self.assertEqual(repr(Ring(ring.book())), "Ring(3 riders, 5 apart)")
        self.assertEqual(repr(Ring(((0, -FAR_NUMBER), (FAR_NUMBER, 0)))), f"Ring(2 riders, {FAR_NUMBER} apart)")


class Told(RingCase):
    def test_by_names(self):
        names = {
            "come_by": ["one", "other"], "hand": ["rider", "many"], "lead": ["row"], "undo": [],
            "tally": ["one", "other"], "as_of": ["many"], "twin": [], **{name: [] for name in ASKS},
        }
        self.assertEqual(parameter_names(Ring), ["book"])
        ring = Ring(book=first_table(3))
        for name, expected in names.items():
            self.assertEqual(parameter_names(getattr(ring, name)), expected)
            self.assertIn(name, vars(Ring))
        for name in ("__eq__", "__len__", "__repr__"):
            self.assertIn(name, vars(Ring))
        ring.come_by(other=2, one=0)
        ring.hand(many=-3, rider=1)
        ring.lead(row=[])
        other = Ring(first_table(3))
        other.come_by(0, 2)
        other.hand(1, -3)
        other.lead([])
        self.assertTrue(ring == other)
        for one in range(3):
            self.assertTold(other.tally(one, 2), ring.tally(other=2, one=one))
        self.assertTold(other.as_of(1).book(), ring.as_of(many=1).book())

    def test_asked_again_and_told_lists_changed(self):
        ring = Ring(model_book((7, -4, 3)))
        ring.hand(0, 3)
        ring.undo()
        for name in ASKS:
            self.check_asking(getattr(ring, name))
        self.check_asking(ring.tally, one=0, other=2)
        ring.log().clear()
        self.assertEqual(len(ring.log()), 4)

    def test_row_changed_behind_lead(self):
        row = [(0, 2), (0, 1)]
        before = copy.deepcopy(row)
        ring = Ring(first_table(3))
        ring.lead(row)
        self.assertTold(before, row)
        told = (ring.book(), ring.passings(), ring.saved())
        row.append((0, 2))
        row[0] = (1, 0)
        self.assertTold(told, (ring.book(), ring.passings(), ring.saved()))
        self.assertTold(told[0], ring.twin().book())
        self.assertIs(ring.undo(), True)
        self.assertTold(first_table(3), ring.book())

    def test_refused_row_stays_as_it_was(self):
        row = [(0, 2), (0, 0), (0, 1)]
        with self.assertRaises(NotNext):
            Ring(first_table(3)).lead(row)
        self.assertTold([(0, 2), (0, 0), (0, 1)], row)

    def test_what_was_told_is_handed_in_again(self):
        ring = Ring(first_table(4))
        for many in (5, -9, FAR_NUMBER):
            ring.hand(many % 4, many)
            self.assertTrue(Ring(ring.book()) == ring)


if __name__ == "__main__":
    unittest.main()
