"""The six limits."""

import unittest

from guessmarks import limits


class LimitsTest(unittest.TestCase):
    def test_each_limit_has_the_listed_value(self):
        self.assertEqual(limits.MOST_LENGTH, 6)
        self.assertEqual(limits.MOST_LETTERS, 26)
        self.assertEqual(limits.MOST_ROWS, 20)
        self.assertEqual(limits.MOST_GUESSES, 20)
        self.assertEqual(limits.MOST_FACTS, 4)
        self.assertEqual(limits.MOST_MENDED, 10)

    def test_each_limit_is_an_integer(self):
        for name in ("MOST_LENGTH", "MOST_LETTERS", "MOST_ROWS", "MOST_GUESSES", "MOST_FACTS", "MOST_MENDED"):
            self.assertIs(type(getattr(limits, name)), int)


if __name__ == "__main__":
    unittest.main()
