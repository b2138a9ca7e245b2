"""The error classes: what they keep and what they are."""

import unittest

from ringlaps import errors

# Each class with the names of the values that it is made with, and with such values.
MADE_WITH = {
    "OffCircle": {"place": -3},
    "NoHouse": {"place": 4},
    "TakenPlace": {"place": 5},
    "StillNamed": {"place": 6},
    "NotBetween": {"place": 7},
    "SamePiece": {"place": 8},
    "NotQuiet": {"place": 9},
    "NotAtRest": {"place": 0},
    "Untold": {"place": 999999999},
    "NoLetter": {"at": -1},
    "BadText": {"line": 12},
    "UntrueNet": {"saying": (1, 4, 13)},
    "OpenWalk": {"first": 2, "last": 3},
    "WalksApart": {"end": 3, "start": 2},
    "NoOrder": {"turns": -5, "index": 10**40},
    "BadDeed": {"deed": ("jump", 3)},
    "NothingToUndo": {},
    "NothingToRedo": {},
}


class ErrorsTest(unittest.TestCase):
    def test_there_are_eighteen_and_their_base(self):
        found = [
            name
            for name in dir(errors)
            if isinstance(getattr(errors, name), type) and issubclass(getattr(errors, name), Exception)
        ]
        self.assertEqual(len(MADE_WITH), 18)
        self.assertEqual(sorted(found), sorted([*MADE_WITH, "RingError"]))

    def test_each_keeps_its_values(self):
        for name, values in MADE_WITH.items():
            with self.subTest(name=name):
                error = getattr(errors, name)(*values.values())
                self.assertEqual(vars(error), values)

    def test_each_takes_its_values_by_name(self):
        for name, values in MADE_WITH.items():
            with self.subTest(name=name):
                self.assertEqual(vars(getattr(errors, name)(**values)), values)

    def test_values_are_not_optional(self):
        for name, values in MADE_WITH.items():
            if values:
                with self.subTest(name=name):
                    self.assertRaises(TypeError, getattr(errors, name))

    def test_each_stands_directly_under_ring_error(self):
        self.assertEqual(errors.RingError.__bases__, (ValueError,))
        for name in MADE_WITH:
            with self.subTest(name=name):
                self.assertEqual(getattr(errors, name).__bases__, (errors.RingError,))

    def test_each_is_a_ring_error_and_none_of_the_others(self):
        for name, values in MADE_WITH.items():
            error = getattr(errors, name)(*values.values())
            self.assertIsInstance(error, errors.RingError)
            self.assertIsInstance(error, ValueError)
            kinds = [other for other in MADE_WITH if isinstance(error, getattr(errors, other))]
            with self.subTest(name=name):
                self.assertEqual(kinds, [name])

    def test_each_can_be_raised_and_caught(self):
        for name, values in MADE_WITH.items():
            kind = getattr(errors, name)
            with self.subTest(name=name), self.assertRaises(kind) as caught:
                raise kind(*values.values())
            self.assertEqual(vars(caught.exception), values)


if __name__ == "__main__":
    unittest.main()
