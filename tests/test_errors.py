"""[5]: the errors."""

import unittest

from stillowed import errors

WITH_AT = ("InvalidRow", "InvalidText", "InvalidBook", "InvalidMoment", "InvalidMove", "InvalidDealing")
WITH_WORD = ("InvalidNumber", "Refused")


class ErrorsTest(unittest.TestCase):
    def test_they_keep_their_argument(self):
        for names, word in ((WITH_AT, "at"), (WITH_WORD, "word"), (("NoEnding",), "stage")):
            for name in names:
                found = getattr(errors, name)
                for value in (0, -1, "form", ("main", 0), None):
                    self.assertEqual(getattr(found(value), word), value)
                    self.assertEqual(getattr(found(**{word: value}), word), value)
                    self.assertEqual(vars(found(value)), {word: value})

    def test_they_are_direct_subclasses(self):
        self.assertEqual(errors.StillError.__bases__, (ValueError,))
        for name in WITH_AT + WITH_WORD + ("NoEnding",):
            self.assertEqual(getattr(errors, name).__bases__, (errors.StillError,))

    def test_they_are_caught_as_value_errors(self):
        with self.assertRaises(ValueError):
            raise errors.Refused("long")
        with self.assertRaises(errors.StillError):
            raise errors.NoEnding(("main", 0))


if __name__ == "__main__":
    unittest.main()
