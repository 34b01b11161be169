"""wrong_rows (points [3], [4], [8]; interface, guessmarks/mending.py)."""

import unittest
from itertools import combinations, product
from random import Random

from guessmarks import mending
from guessmarks.boards import Board
from guessmarks.counting import count
from guessmarks.errors import NotAHistory, TooManyRows
from guessmarks.histories import History
from guessmarks.mending import wrong_rows
from guessmarks.samples import sample_history
from tests.support import (ALPHABET, all_rows, all_words, marked, marks_by_definition, no_histories, refused,
                           refuses_value, some_rows, twenty_guesses, words_that_fit)

BOARD = Board("abc", 3)
LARGEST = Board(ALPHABET, 6)


def least_places(words, rows):
    """Return the result by the definition, for a list of all words."""
    misfits = [frozenset(place for place, (guess, told) in enumerate(rows) if marks_by_definition(guess, word) != told)
               for word in words]
    for many in range(len(rows) + 1):
        for places in combinations(range(len(rows)), many):
            if any(misfit <= set(places) for misfit in misfits):
                return places
    raise AssertionError("all rows are taken out in the end")


class WrongRowsTest(unittest.TestCase):
    def check(self, letters, length, rows):
        """Compare the result with a list of all words."""
        found = wrong_rows(History(Board(letters, length), *rows))
        self.assertEqual(found, least_places(all_words(letters, length), rows), (letters, rows))

    def test_all_rows_of_the_smallest_boards(self):
        for letters, length in [("ab", 1), ("ab", 2), ("ab", 3), ("abc", 1), ("abc", 2)]:
            for row in all_rows(letters, length):
                self.check(letters, length, (row,))
        for letters, length, many in [("ab", 1, 2), ("ab", 1, 3), ("ab", 2, 2), ("abc", 1, 3)]:
            for rows in product(all_rows(letters, length), repeat=many):
                self.check(letters, length, rows)

    def test_rows_with_mistakes(self):
        choose = Random(61)
        for letters, length in [("ab", 2), ("ab", 3), ("abc", 2), ("abc", 3), ("abcd", 2), ("abcd", 3), ("abc", 4)]:
            for many in range(1, 11):
                hidden = "".join(choose.choices(letters, k=length))
                for wrong in {0, 1, 2, many // 2, many}:
                    rows = some_rows(choose, letters, length, many - min(wrong, many), hidden)
                    rows += some_rows(choose, letters, length, min(wrong, many), None)
                    choose.shuffle(rows)
                    self.check(letters, length, rows)

    def test_rows_marked_for_two_words(self):
        choose = Random(62)
        for letters, length in [("abc", 3), ("abcd", 3), ("abcd", 2), ("ab", 4)]:
            words = all_words(letters, length)
            for _ in range(12):
                one, two = choose.sample(words, k=2)
                rows = some_rows(choose, letters, length, 5, one) + some_rows(choose, letters, length, 5, two)
                choose.shuffle(rows)
                self.check(letters, length, rows)

    def test_by_hand(self):
        board = Board("ab", 2)
        self.assertEqual(wrong_rows(History(board, ("ab", "22"), ("ba", "22"))), (0,))
        self.assertEqual(wrong_rows(History(board, ("ab", "22"), ("ba", "22"), ("ba", "22"))), (0,))
        self.assertEqual(wrong_rows(History(board, ("ba", "22"), ("ab", "22"), ("ba", "22"))), (1,))
        self.assertEqual(wrong_rows(History(board, ("ab", "01"), ("ba", "22"), ("ab", "21"))), (0, 2))
        # Any of the words ab, ba and bb can be the one that is left; the least places are taken.
        self.assertEqual(wrong_rows(History(board, ("bb", "22"), ("ba", "22"), ("ab", "22"))), (0, 1))
        self.assertEqual(wrong_rows(History(board, *[("ab", "21")] * 10)), tuple(range(10)))

    def test_a_word_is_left(self):
        for history in (History(BOARD), sample_history(), History(LARGEST), marked(LARGEST, "letter", "kettle"),
                        marked(LARGEST, "quartz", *twenty_guesses()[:10])):
            self.assertEqual(wrong_rows(history), ())
            self.assertIs(type(wrong_rows(history)), tuple)

    def test_the_largest_board(self):
        choose = Random(63)
        for hidden in ("letter", "banana", "quartz"):
            good = list(marked(LARGEST, hidden, "abcdef", "letter", "nabana", "zzuart", "qwerty", "uaeiot", "xyzabr",
                               hidden).rows)
            self.assertEqual(wrong_rows(History(LARGEST, *good)), ())
            for place in range(9):
                rows = good[:place] + [("kkkkkk", "222222")] + good[place:]
                self.assertEqual(wrong_rows(History(LARGEST, *rows)), (place,))
            # No word at all fits these rows.
            first, second = choose.sample(range(10), k=2)
            rows = good[:]
            for place in sorted((first, second)):
                rows.insert(place, ("aabbcc", "010000"))
            self.assertEqual(wrong_rows(History(LARGEST, *rows)), tuple(sorted((first, second))))

    def test_marks_of_which_only_one_can_be_right(self):
        told = ["000000", "100000", "010000", "001000", "000100", "000010", "000001", "200000", "020000", "002000"]
        rows = [("abcdef", marks) for marks in told]
        self.assertEqual(wrong_rows(History(LARGEST, *rows)), tuple(range(9)))

    def test_without_the_rows_a_word_is_left(self):
        choose = Random(64)
        for letters, length in [(ALPHABET, 6), (ALPHABET, 5), ("abcdefgh", 6)]:
            for few in (4, 8):
                rows = some_rows(choose, letters[:few], length, 10, None)
                places = wrong_rows(History(Board(letters, length), *rows))
                self.assertEqual(list(places), sorted(set(places)))
                kept = [row for place, row in enumerate(rows) if place not in places]
                self.assertGreater(count(History(Board(letters, length), *kept)), 0)
                for place in places:
                    self.assertEqual(count(History(Board(letters, length), *kept, rows[place])), 0)

    def test_the_kinds_of_the_results(self):
        places = wrong_rows(History(Board("ab", 2), ("aa", "20"), ("ab", "22"), ("ba", "22"), ("bb", "20")))
        self.assertIs(type(places), tuple)
        self.assertEqual([type(place) for place in places], [int, int])

    def test_arguments_by_name(self):
        self.assertEqual(wrong_rows(history=sample_history()), ())


class ErrorsTest(unittest.TestCase):
    def test_what_is_no_history(self):
        for history in no_histories(BOARD):
            refuses_value(self, NotAHistory, history, wrong_rows, history)
            refuses_value(self, NotAHistory, history, wrong_rows, history=history)

    def test_ten_rows_are_allowed_and_eleven_are_not(self):
        rows = [("aab", "210"), ("cca", "002"), ("abc", "222"), ("aaa", "000")] * 5
        for many in range(21):
            for chosen in (rows[:many], [("aab", "210")] * many, [("abc", "222")] * many):
                history = History(BOARD, *chosen)
                if many <= 10:
                    self.assertEqual(wrong_rows(history), least_places(all_words("abc", 3), chosen))
                else:
                    error = refused(self, TooManyRows, wrong_rows, history)
                    self.assertEqual(error.limit, 10)
                    self.assertIs(type(error.limit), int)
        self.assertTrue(words_that_fit(all_words("abc", 3), [("aab", "210")] * 11))

    def test_no_call_changes_the_history(self):
        history = History(Board("ab", 2), ("ab", "22"), ("ba", "22"))
        self.assertEqual([wrong_rows(history), wrong_rows(history)], [(0,), (0,)])
        self.assertEqual(history.rows, (("ab", "22"), ("ba", "22")))

    def test_the_function_is_defined_where_it_is_listed(self):
        self.assertEqual(mending.wrong_rows.__module__, "guessmarks.mending")


if __name__ == "__main__":
    unittest.main()
