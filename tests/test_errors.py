"""Point 0: the errors."""

import unittest

from goodtill import errors

NAMES = ("BadFraction", "BadLabel", "BadName", "BadOctets", "BadEvent", "BadView", "BadRoster", "BadRun", "BadDeed",
         "BadText", "Refused")


class Errors(unittest.TestCase):
    def test_base(self):
        self.assertEqual(errors.OwnError.__bases__, (ValueError,))

    def test_each_is_a_direct_subclass_of_it_alone(self):
        for name in NAMES:
            self.assertEqual(getattr(errors, name).__bases__, (errors.OwnError,))

    def test_each_keeps_its_argument_whatever_it_is(self):
        for name in NAMES:
            word = "value" if name == "Refused" else "at"
            for held in (0, -1, None, True, "text", (1, (2,)), [3], 10 ** 5000):
                error = getattr(errors, name)(held)
                self.assertIs(getattr(error, word), held)
                self.assertIs(getattr(getattr(errors, name)(**{word: held}), word), held)

    def test_each_is_caught_as_the_base(self):
        for name in NAMES:
            with self.assertRaises(errors.OwnError):
                raise getattr(errors, name)(1)


if __name__ == "__main__":
    unittest.main()
