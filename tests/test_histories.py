"""Class History (points [3] to [5] and [8]; interface, guessmarks/histories.py)."""

import unittest

from guessmarks import histories
from guessmarks.boards import Board
from guessmarks.errors import InvalidMarks, InvalidPlace, InvalidRows, InvalidWord, NotABoard, TooManyRows
from guessmarks.histories import History
from tests.support import (ALPHABET, SMALL_BOARDS, Agreeing, HistoryLookalike, Raising, all_rows, all_words,
                           chosen_cases, marks_by_definition, nested, no_histories, refused, refuses_value,
                           strange_objects)

BOARD = Board("abc", 3)
LARGEST = Board(ALPHABET, 6)

ROW = ("abc", "012")
ROWS = (("abc", "012"), ("aab", "210"), ("cca", "002"), ("abc", "012"), ("bbb", "111"))

# What is no row of the board abc 3.
NO_ROWS = [["abc", "012"], ("abc",), ("012",), (), ("abc", "012", "abc"), ("abc", "012", None), ("abc", "012", "012"),
           ("abd", "012"), ("ab", "012"), ("abca", "012"), ("", "012"), ("ABC", "012"), ("abc ", "012"),
           ("abc\n", "012"), ("abc", "01"), ("abc", "0120"), ("abc", ""), ("abc", "013"), ("abc", "01a"),
           ("abc", "01 "), ("abc", "012\n"), ("abc", "\u0660\u0661\u0662"), ("abc", "0\u00b2\u00b9"),
           ("012", "abc"), ("abc", "abc"), ("012", "012"), ("abc", 12), ("abc", 120), ("abc", 222), (12, "012"),
           (0, 0), ("abc", None), (None, "012"), (None, None), ("abc", True), (True, "012"), (True, False),
           ("abc", ("0", "1", "2")), ("abc", ["0", "1", "2"]), (("a", "b", "c"), "012"), (["a", "b", "c"], "012"),
           ("abc", {"0": 1, "1": 1, "2": 1}), ({"a": 1, "b": 1, "c": 1}, "012"), ("abc", b"012"), (b"abc", "012"),
           (("abc", "012"),), (("abc", "012"), ("abc", "012")), [("abc", "012")], ("abc", nested(14)),
           (nested(14), "012"), nested(15), {"abc": "012"}, {"abc", "012"}, "abc 012", "abc012", "ab", "", 0, 12, -1,
           ("abc", Agreeing()), (Agreeing(), "012"), ("abc", Raising()), (Raising(), "012"), Agreeing(), Raising(),
           Board("abc", 3), History(Board("abc", 3)), History(Board("abc", 3), ("abc", "012"))] + strange_objects()

NO_WORDS = ["", "a", "ab", "abca", "abd", "ABC", "ab ", "abc\n", "012", 0, 3, -1, b"abc", ("a", "b", "c"),
            ["a", "b", "c"], ("abc",), ("abc", "012"), nested(15)] + strange_objects()

NO_MARKS = ["", "0", "01", "0121", "013", "abc", "01 ", "012\n", "\u0660\u0661\u0662", 0, 12, 222, -1, b"012",
            ("0", "1", "2"), ["0", "1", "2"], (0, 1, 2), ("abc", "012"), nested(15)] + strange_objects()

# What is no place of a row in any history.
NO_PLACES = [-1, -2, 20, 100, 10 ** 19, -(10 ** 19), "", "0", "abc", b"0", (0,), [0], ("abc", "012"),
             nested(15)] + strange_objects()


def twenty_rows():
    """Return 20 different rows of the board abc 3."""
    return all_rows("abc", 3)[:20]


class CreationTest(unittest.TestCase):
    def test_no_row_one_and_several(self):
        for rows in [(), ROWS[:1], ROWS[:2], ROWS]:
            history = History(BOARD, *rows)
            self.assertEqual(history.board, BOARD)
            self.assertEqual(history.rows, rows)
            self.assertIs(type(history.rows), tuple)
            self.assertEqual(len(history), len(rows))

    def test_twenty_rows(self):
        history = History(BOARD, *twenty_rows())
        self.assertEqual(history.rows, tuple(twenty_rows()))
        self.assertEqual(len(history), 20)

    def test_every_number_of_rows(self):
        for many in range(21):
            self.assertEqual(History(BOARD, *twenty_rows()[:many]).rows, tuple(twenty_rows()[:many]))

    def test_the_board_by_name(self):
        self.assertEqual(History(board=BOARD), History(BOARD))

    def test_each_row_of_small_boards(self):
        # Rows that no word fits are rows, too.
        for letters, length in [("ab", 1), ("ab", 2), ("bz", 3), ("abc", 2), ("abc", 3), ("abcd", 2)]:
            board = Board(letters, length)
            for row in all_rows(letters, length):
                self.assertEqual(History(board, row).rows, (row,))

    def test_rows_of_the_largest_board(self):
        rows = (("abcdef", "012012"), ("zzzzzz", "222221"), ("uvwxyz", "000000"))
        self.assertEqual(History(LARGEST, *rows).rows, rows)

    def test_equal_rows_and_contradicting_rows_are_kept(self):
        rows = (("abc", "222"), ("abc", "222"), ("abc", "000"), ("aaa", "111"), ("abc", "222"))
        self.assertEqual(History(BOARD, *rows).rows, rows)
        rows = (("abc", "012"),) * 20
        self.assertEqual(History(BOARD, *rows).rows, rows)

    def test_the_elements_of_the_rows(self):
        for row in History(BOARD, *ROWS).rows:
            self.assertIs(type(row), tuple)
            self.assertEqual([type(element) for element in row], [str, str])

    def test_the_list_that_was_unpacked_does_not_matter_later(self):
        rows = list(ROWS)
        history = History(BOARD, *rows)
        rows.clear()
        self.assertEqual(history.rows, ROWS)


class CreationErrorsTest(unittest.TestCase):
    def test_what_is_no_board(self):
        for board in no_histories(BOARD) + [History(BOARD), "abc 3", ("abc", 3)]:
            if isinstance(board, Board):
                continue
            refuses_value(self, NotABoard, board, History, board)
            refuses_value(self, NotABoard, board, History, board, ROW)
            refuses_value(self, NotABoard, board, History, board=board)

    def test_what_is_no_row(self):
        for row in NO_ROWS:
            self.assertEqual(refused(self, InvalidRows, History, BOARD, row).index, 0, row)
            self.assertEqual(refused(self, InvalidRows, History, BOARD, ROW, row).index, 1, row)
            self.assertEqual(refused(self, InvalidRows, History, BOARD, ROW, row, ROW).index, 1, row)

    def test_the_place_of_the_refused_row(self):
        for many in (1, 2, 3, 19, 20):
            for at in range(many):
                rows = twenty_rows()[:many]
                rows[at] = ("abc", "01")
                index = refused(self, InvalidRows, History, BOARD, *rows).index
                self.assertEqual(index, at)
                self.assertIs(type(index), int)

    def test_the_first_of_several_is_named(self):
        for first, second in [(0, 1), (0, 19), (5, 6), (18, 19)]:
            rows = twenty_rows()
            rows[first] = rows[second] = None
            self.assertEqual(refused(self, InvalidRows, History, BOARD, *rows).index, first)

    def test_more_than_twenty_rows(self):
        for many in (21, 22, 40, 100):
            rows = (twenty_rows() * 5)[:many]
            self.assertIsNone(refused(self, InvalidRows, History, BOARD, *rows).index)

    def test_the_number_of_rows_is_looked_at_before_the_rows(self):
        for row in (None, "abc", ["abc", "012"], ("abd", "012"), ("abc", "0123")):
            for at in (0, 10, 20):
                rows = twenty_rows() + [ROW]
                rows[at] = row
                self.assertIsNone(refused(self, InvalidRows, History, BOARD, *rows).index)
            self.assertIsNone(refused(self, InvalidRows, History, BOARD, *([row] * 21)).index)
            self.assertEqual(refused(self, InvalidRows, History, BOARD, *([row] * 20)).index, 0)

    def test_the_board_is_refused_first(self):
        for board in (None, True, "abc 3", 3):
            refuses_value(self, NotABoard, board, History, board, None)
            refuses_value(self, NotABoard, board, History, board, *([ROW] * 21))
            refuses_value(self, NotABoard, board, History, board, *([None] * 21))

    def test_a_row_of_another_board(self):
        self.assertEqual(refused(self, InvalidRows, History, Board("abd", 3), ("abd", "012"), ROW).index, 1)
        self.assertEqual(refused(self, InvalidRows, History, Board("abc", 2), ("ab", "01"), ROW).index, 1)
        self.assertEqual(refused(self, InvalidRows, History, LARGEST, ("abcdef", "012012"), ROW).index, 1)
        self.assertEqual(refused(self, InvalidRows, History, LARGEST, ("abcdeF", "012012")).index, 0)


class ThenTest(unittest.TestCase):
    def test_one_more_row_at_the_end(self):
        history = History(BOARD)
        for many, row in enumerate(ROWS):
            history = history.then(*row)
            self.assertIs(type(history), History)
            self.assertEqual(history.rows, ROWS[:many + 1])
            self.assertEqual(history.board, BOARD)
        self.assertEqual(history, History(BOARD, *ROWS))

    def test_arguments_by_name(self):
        self.assertEqual(History(BOARD).then(guess="aab", told="210").rows, (("aab", "210"),))
        self.assertEqual(History(BOARD).then(told="210", guess="aab").rows, (("aab", "210"),))

    def test_rows_that_no_word_fits_and_rows_that_are_there_already(self):
        history = History(BOARD, ROW)
        self.assertEqual(history.then("aaa", "011").rows, (ROW, ("aaa", "011")))
        self.assertEqual(history.then("abc", "210").rows, (ROW, ("abc", "210")))
        self.assertEqual(history.then(*ROW).rows, (ROW, ROW))

    def test_the_old_history_is_what_it_was(self):
        history = History(BOARD, *ROWS[:2])
        for row in twenty_rows():
            history.then(*row)
        self.assertEqual((history.board, history.rows, len(history)), (BOARD, ROWS[:2], 2))
        self.assertEqual(history, History(BOARD, *ROWS[:2]))

    def test_the_twentieth_row_can_be_added_and_no_other_one(self):
        history = History(BOARD, *twenty_rows()[:19])
        last = twenty_rows()[19]
        full = history.then(*last)
        self.assertEqual(full, History(BOARD, *twenty_rows()))
        for row in (last, ROW, twenty_rows()[0]):
            error = refused(self, TooManyRows, full.then, *row)
            self.assertEqual(error.limit, 20)
            self.assertIs(type(error.limit), int)
        self.assertEqual(len(full), 20)

    def test_what_is_no_word(self):
        for history in (History(BOARD), History(BOARD, *ROWS), History(BOARD, *twenty_rows())):
            for guess in NO_WORDS:
                refuses_value(self, InvalidWord, guess, history.then, guess, "012")
                refuses_value(self, InvalidWord, guess, history.then, told="012", guess=guess)

    def test_what_is_no_string_of_marks(self):
        for history in (History(BOARD), History(BOARD, *ROWS), History(BOARD, *twenty_rows())):
            for told in NO_MARKS:
                refuses_value(self, InvalidMarks, told, history.then, "abc", told)
                refuses_value(self, InvalidMarks, told, history.then, told=told, guess="abc")

    def test_the_guess_is_refused_ahead_of_the_marks(self):
        for history in (History(BOARD), History(BOARD, *twenty_rows())):
            for guess, told in [("abx", "013"), ("ab", "01"), (None, None), ("012", "abc"), (True, 5)]:
                refuses_value(self, InvalidWord, guess, history.then, guess, told)
                refuses_value(self, InvalidWord, guess, history.then, told=told, guess=guess)

    def test_a_failed_call_changes_nothing(self):
        history = History(BOARD, *ROWS)
        refused(self, InvalidWord, history.then, "abd", "012")
        refused(self, InvalidMarks, history.then, "abc", "013")
        self.assertEqual(history.rows, ROWS)


class WithoutTest(unittest.TestCase):
    def test_the_first_a_middle_and_the_last_row(self):
        history = History(BOARD, *ROWS)
        self.assertEqual(history.without(0).rows, ROWS[1:])
        self.assertEqual(history.without(2).rows, (ROWS[0], ROWS[1], ROWS[3], ROWS[4]))
        self.assertEqual(history.without(4).rows, ROWS[:4])

    def test_each_place(self):
        for many in (1, 2, 3, 19, 20):
            rows = twenty_rows()[:many]
            history = History(BOARD, *rows)
            for place in range(many):
                less = history.without(place)
                self.assertIs(type(less), History)
                self.assertEqual(less.rows, tuple(row for at, row in enumerate(rows) if at != place))
                self.assertEqual(less.board, BOARD)

    def test_one_of_two_equal_rows_stays(self):
        history = History(BOARD, ROW, ("aab", "210"), ROW)
        self.assertEqual(history.without(0).rows, (("aab", "210"), ROW))
        self.assertEqual(history.without(2).rows, (ROW, ("aab", "210")))

    def test_the_place_by_name(self):
        self.assertEqual(History(BOARD, ROW).without(place=0), History(BOARD))

    def test_the_old_history_is_what_it_was(self):
        history = History(BOARD, *ROWS)
        for place in range(5):
            history.without(place)
        self.assertEqual((history.board, history.rows, len(history)), (BOARD, ROWS, 5))

    def test_a_row_taken_out_of_a_full_history_makes_room(self):
        history = History(BOARD, *twenty_rows()).without(7)
        self.assertEqual(len(history.then(*ROW)), 20)

    def test_what_is_no_place_of_a_row(self):
        for history in (History(BOARD), History(BOARD, ROW), History(BOARD, *ROWS), History(BOARD, *twenty_rows())):
            for place in NO_PLACES + [len(history), len(history) + 1, -len(history) - 1]:
                refuses_value(self, InvalidPlace, place, history.without, place)
                refuses_value(self, InvalidPlace, place, history.without, place=place)

    def test_true_and_false_are_no_places(self):
        history = History(BOARD, *ROWS)
        refuses_value(self, InvalidPlace, True, history.without, True)
        refuses_value(self, InvalidPlace, False, history.without, False)


class FitsTest(unittest.TestCase):
    def test_each_word_with_each_row_of_small_boards(self):
        for letters, length in [("ab", 1), ("ab", 2), ("ab", 3), ("abc", 1), ("abc", 2), ("abcd", 2)]:
            board = Board(letters, length)
            for guess, told in all_rows(letters, length):
                history = History(board, (guess, told))
                for word in all_words(letters, length):
                    self.assertIs(history.fits(word), marks_by_definition(guess, word) == told, (history.rows, word))

    def test_each_word_with_several_rows(self):
        for letters, length, rows in chosen_cases():
            if (letters, length) not in SMALL_BOARDS:
                continue
            history = History(Board(letters, length), *rows)
            for word in all_words(letters, length):
                wanted = all(marks_by_definition(guess, word) == told for guess, told in rows)
                self.assertIs(history.fits(word), wanted, (rows, word))

    def test_every_word_fits_no_rows(self):
        for word in all_words("abc", 3):
            self.assertIs(History(BOARD).fits(word), True)

    def test_words_of_the_largest_board(self):
        words = [LARGEST.word(number * 15485863 % LARGEST.size) for number in range(40)] + ["abcdef", "zzzzzz"]
        for hidden in words:
            rows = [(guess, marks_by_definition(guess, hidden)) for guess in words[:20]]
            history = History(LARGEST, *rows)
            for word in words:
                wanted = all(marks_by_definition(guess, word) == told for guess, told in rows)
                self.assertIs(history.fits(word), wanted)
            self.assertIs(history.fits(hidden), True)

    def test_one_row_that_is_not_fitted_is_enough(self):
        rows = [("abc", marks_by_definition("abc", "cab")), ("aab", marks_by_definition("aab", "cab")),
                ("ccc", marks_by_definition("ccc", "cab"))]
        self.assertIs(History(BOARD, *rows).fits("cab"), True)
        for place in range(3):
            other = list(rows)
            other[place] = (rows[place][0], "222")
            self.assertIs(History(BOARD, *other).fits("cab"), False)

    def test_the_word_by_name(self):
        self.assertIs(History(BOARD, ("abc", "222")).fits(word="abc"), True)

    def test_what_is_no_word(self):
        for history in (History(BOARD), History(BOARD, *ROWS)):
            for word in NO_WORDS:
                refuses_value(self, InvalidWord, word, history.fits, word)
                refuses_value(self, InvalidWord, word, history.fits, word=word)

    def test_a_failed_call_changes_nothing(self):
        history = History(BOARD, *ROWS)
        refused(self, InvalidWord, history.fits, "abd")
        history.fits("abc")
        self.assertEqual(history, History(BOARD, *ROWS))


class TextTest(unittest.TestCase):
    def test_str(self):
        self.assertEqual(str(History(BOARD)), "")
        self.assertEqual(str(History(BOARD, ROW)), "abc 012")
        self.assertEqual(str(History(BOARD, *ROWS)), "abc 012\naab 210\ncca 002\nabc 012\nbbb 111")
        self.assertEqual(str(History(Board("xy", 1), ("y", "2"), ("x", "0"))), "y 2\nx 0")

    def test_str_of_twenty_rows(self):
        lines = [f"{guess} {told}" for guess, told in twenty_rows()]
        self.assertEqual(str(History(BOARD, *twenty_rows())).split("\n"), lines)

    def test_repr(self):
        for many in range(21):
            self.assertEqual(repr(History(BOARD, *twenty_rows()[:many])), f"History({many} rows)")

    def test_repr_by_hand(self):
        self.assertEqual(repr(History(BOARD)), "History(0 rows)")
        self.assertEqual(repr(History(BOARD, ROW)), "History(1 rows)")
        self.assertEqual(repr(History(BOARD, ROW, ROW)), "History(2 rows)")

    def test_truth(self):
        self.assertIs(bool(History(BOARD)), False)
        self.assertIs(bool(History(BOARD, ROW)), True)
        self.assertIs(bool(History(BOARD, *twenty_rows())), True)
        self.assertIs(bool(History(BOARD, ROW).without(0)), False)


class EqualityTest(unittest.TestCase):
    def assert_equal_both_ways(self, one, other, wanted):
        self.assertIs(one == other, wanted)
        self.assertIs(other == one, wanted)
        self.assertIs(one != other, not wanted)
        self.assertIs(other != one, not wanted)

    def test_equal_histories(self):
        self.assert_equal_both_ways(History(BOARD), History(Board("abc", 3)), True)
        self.assert_equal_both_ways(History(BOARD, *ROWS), History(Board("abc", 3), *list(ROWS)), True)
        self.assert_equal_both_ways(History(BOARD, ROW, ROW), History(BOARD, ROW).then(*ROW), True)
        self.assert_equal_both_ways(History(BOARD, *ROWS).without(4), History(BOARD, *ROWS[:4]), True)
        history = History(BOARD, ROW)
        self.assert_equal_both_ways(history, history, True)

    def test_other_rows(self):
        history = History(BOARD, *ROWS)
        for rows in [(), ROWS[:4], ROWS + ROWS[:1], ROWS[::-1], (ROWS[1], ROWS[0]) + ROWS[2:],
                     ROWS[:4] + (("bbb", "110"),), ROWS[:4] + (("bba", "111"),)]:
            self.assert_equal_both_ways(history, History(BOARD, *rows), False)
        self.assert_equal_both_ways(History(BOARD, ROW), History(BOARD, ROW, ROW), False)

    def test_histories_that_leave_the_same_words_can_be_unequal(self):
        self.assert_equal_both_ways(History(BOARD, ("abc", "222")), History(BOARD, ("aba", "220")), False)

    def test_another_board(self):
        for board in (Board("abcd", 3), Board("abc", 2), Board("abd", 3)):
            self.assert_equal_both_ways(History(BOARD), History(board), False)
        self.assert_equal_both_ways(History(BOARD, ROW), History(Board("abcd", 3), ROW), False)
        self.assert_equal_both_ways(History(BOARD, *ROWS), History(Board("abcz", 3), *ROWS), False)

    def test_other_objects(self):
        for history in (History(BOARD), History(BOARD, *ROWS)):
            others = no_histories(BOARD) + [history.rows, list(history.rows), str(history), repr(history), BOARD,
                                            len(history), HistoryLookalike(BOARD), (BOARD, history.rows)]
            for other in others:
                self.assert_equal_both_ways(history, other, False)

    def test_in_a_list(self):
        self.assertIn(History(BOARD, ROW), [None, 3, History(BOARD), History(BOARD, ROW)])
        self.assertNotIn(History(BOARD, ROW), [None, 3, History(BOARD), ROW, (ROW,)])


class PlaceTest(unittest.TestCase):
    def test_the_class_and_its_methods_are_defined_where_they_are_listed(self):
        self.assertEqual(histories.History.__module__, "guessmarks.histories")
        for name in ("then", "without", "fits", "__len__", "__str__", "__repr__", "__eq__"):
            self.assertIn(name, vars(History))


if __name__ == "__main__":
    unittest.main()
