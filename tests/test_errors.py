"""Stage 1: errors [1.1] [1.2]."""

import unittest

from pieceround import errors
from tests.samples import ALL_KINDS

WITH_MESSAGE = [
    "InvalidNumber", "InvalidOrder", "InvalidExchange", "InvalidLengths", "InvalidPoint", "InvalidCourse",
    "InvalidReading", "InvalidTrace", "InvalidHeights", "InvalidProgram", "InvalidOperation",
]
KEEPING = [
    ("ParseError", errors.PieceError, "index"),
    ("InvalidCount", IndexError, "value"),
    ("UnknownName", KeyError, "name"),
    ("NothingToUndo", RuntimeError, "wanted"),
    ("TooMany", OverflowError, "limit"),
    ("Refused", ArithmeticError, "reason"),
]


class ErrorsTest(unittest.TestCase):

    def test_piece_error_is_derived_from_value_error(self):
        self.assertEqual(errors.PieceError.__bases__, (ValueError,))
        self.assertEqual(errors.PieceError("told").args, ("told",))

    def test_errors_with_a_message_are_derived_from_piece_error(self):
        for name in WITH_MESSAGE:
            error = getattr(errors, name)
            with self.subTest(name):
                self.assertEqual(error.__bases__, (errors.PieceError,))
                self.assertEqual(error.__name__, name)
                self.assertIsInstance(error("told"), ValueError)

    def test_errors_that_keep_a_value_are_derived_directly(self):
        for name, base, _ in KEEPING:
            with self.subTest(name):
                self.assertEqual(getattr(errors, name).__bases__, (base,))
                self.assertEqual(getattr(errors, name).__name__, name)

    def test_errors_keep_any_value(self):
        for name, base, attribute in KEEPING:
            for value in ALL_KINDS:
                with self.subTest(name=name):
                    error = getattr(errors, name)(value)
                    self.assertIs(getattr(error, attribute), value)
                    self.assertIsInstance(error, base)

    def test_errors_are_defined_in_their_module(self):
        for name in ["PieceError"] + WITH_MESSAGE + [row[0] for row in KEEPING]:
            self.assertEqual(getattr(errors, name).__module__, "pieceround.errors")

    def test_errors_can_be_raised_and_caught(self):
        for name, base, attribute in KEEPING:
            with self.assertRaises(base) as caught:
                raise getattr(errors, name)(("a", 1))
            self.assertEqual(getattr(caught.exception, attribute), ("a", 1))


if __name__ == "__main__":
    unittest.main()
