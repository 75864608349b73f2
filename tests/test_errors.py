"""The error classes and what they stand under."""

import unittest

from squarefield import errors
from squarefield.errors import BadNumber, BadParts, BadPrime, BadText, BadWalk, SquareError

REFUSALS = [BadNumber, BadPrime, BadParts, BadWalk, BadText]


class ErrorClasses(unittest.TestCase):
    def test_square_error_stands_straight_under_value_error(self):
        self.assertEqual(SquareError.__bases__, (ValueError,))

    def test_each_refusal_stands_straight_under_square_error(self):
        for refusal in REFUSALS:
            self.assertEqual(refusal.__bases__, (SquareError,), refusal)

    def test_the_refusals_are_different_classes(self):
        self.assertEqual(len(set(REFUSALS)), 5)
        for one in REFUSALS:
            for other in REFUSALS:
                self.assertEqual(issubclass(one, other), one is other)

    def test_they_are_there_under_their_names(self):
        for name in ["SquareError", "BadNumber", "BadPrime", "BadParts", "BadWalk", "BadText"]:
            self.assertEqual(getattr(errors, name).__name__, name)

    def test_each_can_be_raised_with_words_and_without(self):
        for refusal in REFUSALS + [SquareError]:
            with self.assertRaises(ValueError) as caught:
                raise refusal("said so")
            self.assertEqual(str(caught.exception), "said so")
            with self.assertRaises(SquareError):
                raise refusal()


if __name__ == "__main__":
    unittest.main()
