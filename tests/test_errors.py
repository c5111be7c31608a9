"""Tests of promise 5."""

import unittest

from signlanes import errors

WITH_VALUE = """InvalidNumber InvalidWord InvalidList InvalidGroup InvalidPicture InvalidSketch InvalidFold InvalidPaper
InvalidMachine InvalidMap InvalidMove InvalidRow InvalidLines InvalidDeed InvalidFlag InvalidBook Unlike TooLong
TooMany""".split()
WITHOUT_VALUE = ["NothingToUndo", "NothingToRedo"]


class ErrorsTest(unittest.TestCase):
    def test_bases(self):
        self.assertEqual(errors.FoldError.__bases__, (ValueError,))
        for name in WITH_VALUE + WITHOUT_VALUE:
            self.assertEqual(getattr(errors, name).__bases__, (errors.FoldError,), name)

    def test_value(self):
        for name in WITH_VALUE:
            kind = getattr(errors, name)
            held = [1, ("a",)]
            self.assertIs(kind(held).value, held, name)
            self.assertIs(kind(value=held).value, held, name)
            self.assertIsNone(kind().value, name)
            self.assertIsNone(kind(None).value, name)
            with self.assertRaises(TypeError):
                kind(1, 2)

    def test_without_value(self):
        for kind in (errors.FoldError, errors.NothingToUndo, errors.NothingToRedo):
            self.assertFalse(hasattr(kind(), "value"))

    def test_raised_and_caught(self):
        for name in WITH_VALUE + WITHOUT_VALUE + ["FoldError"]:
            with self.assertRaises(ValueError):
                raise getattr(errors, name)()


if __name__ == "__main__":
    unittest.main()
