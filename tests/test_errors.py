import unittest

from tallyring import errors
from tests.helpers import parameter_names

REFUSALS = [
    ("NotNext", ValueError, ["one", "other"]),
    ("NoTurn", ValueError, ["at"]),
    ("NotThese", ValueError, []),
    ("NotAgreed", ValueError, ["one", "other"]),
    ("BadRow", ValueError, ["row"]),
    ("Alone", ValueError, []),
    ("TooFar", OverflowError, ["apart"]),
    ("NoBook", LookupError, []),
    ("NoDeed", LookupError, ["many"]),
    ("NoWord", LookupError, ["number"]),
]
SAMPLES = [(3, 5), (0, 0), (-1, 10 ** 12), (12, -7)]


class Refusals(unittest.TestCase):
    def test_there_are_just_these_ten(self):
        named = [name for name, value in vars(errors).items() if isinstance(value, type)]
        self.assertEqual(sorted(named), sorted(name for name, base, fields in REFUSALS))

    def test_straight_under_pythons_own(self):
        for name, base, fields in REFUSALS:
            with self.subTest(name):
                self.assertEqual(getattr(errors, name).__bases__, (base,))
                self.assertEqual(getattr(errors, name).__module__, "tallyring.errors")

    def test_by_places(self):
        for name, base, fields in REFUSALS:
            for sample in SAMPLES:
                with self.subTest(name, sample=sample):
                    self.check(getattr(errors, name)(*sample[:len(fields)]), fields, sample)

    def test_by_names(self):
        for name, base, fields in REFUSALS:
            for sample in SAMPLES:
                with self.subTest(name, sample=sample):
                    self.check(getattr(errors, name)(**dict(zip(fields, sample))), fields, sample)

    def check(self, refusal, fields, sample):
        self.assertEqual(vars(refusal), dict(zip(fields, sample)))

    def test_takes_just_what_stands_in_its_brackets(self):
        for name, base, fields in REFUSALS:
            with self.subTest(name):
                self.assertEqual(parameter_names(getattr(errors, name)), fields)

    def test_raised_and_caught_as_pythons_own(self):
        for name, base, fields in REFUSALS:
            with self.subTest(name), self.assertRaises(base) as caught:
                raise getattr(errors, name)(*[4, 2][:len(fields)])
            self.assertIs(type(caught.exception), getattr(errors, name))


if __name__ == "__main__":
    unittest.main()
