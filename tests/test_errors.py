"""Point 4: the classes of refusals."""

import unittest

from sharesample import errors

NAMES = ["NoBottom", "NoDrawing", "NoShares", "NoWeights", "NoWorths", "NoSize", "NoPair", "NoLot", "NoGuess",
         "NoGroups", "TooMany", "NoText", "NoLine"]


class Errors(unittest.TestCase):
    def test_share_error_stands_straight_beneath_value_error(self):
        self.assertEqual(errors.ShareError.__bases__, (ValueError,))
        self.assertEqual(errors.ShareError.__name__, "ShareError")

    def test_each_refusal_stands_straight_beneath_share_error(self):
        for name in NAMES:
            with self.subTest(name):
                kind = getattr(errors, name)
                self.assertEqual(kind.__bases__, (errors.ShareError,))
                self.assertEqual(kind.__name__, name)

    def test_none_stands_beneath_another_one(self):
        for name in NAMES:
            for other in NAMES:
                if name != other:
                    with self.subTest(name=name, other=other):
                        self.assertFalse(issubclass(getattr(errors, name), getattr(errors, other)))

    def test_each_can_be_made_raised_and_taken(self):
        for name in NAMES:
            with self.subTest(name):
                with self.assertRaises(ValueError):
                    raise getattr(errors, name)("why")


if __name__ == "__main__":
    unittest.main()
