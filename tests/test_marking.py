"""marks and can_come (points [4] to [7]; interface, guessmarks/marking.py)."""

import unittest

from guessmarks import marking
from guessmarks.boards import Board
from guessmarks.errors import InvalidMarks, InvalidWord, NotABoard
from guessmarks.marking import can_come, marks
from tests.support import (ALPHABET, all_marks, all_words, marks_by_definition, nested, refuses_value,
                           strange_objects)

NO_BOARDS = strange_objects() + ["abc 3", "Board(abc 3)", "abc", 3, 27, ("abc", 3), ["abc", 3], Board]

# Strings and other objects that are no words of the board abc 3.
NO_WORDS = ["", "a", "ab", "abca", "abd", "ABC", "abC", "ab\n", "abc\n", " ab", "ab ", "a\u00e4b", "012", "ab" * 250,
            0, 3, -1, 10 ** 19, b"abc", bytearray(b"abc"), ("a", "b", "c"), ["a", "b", "c"], ("abc",),
            {"a": 0, "b": 0, "c": 0}, Board("abc", 3), nested(15)] + strange_objects()

# Strings and other objects that are no marks of the board abc 3.
NO_MARKS = ["", "0", "01", "0121", "000000", "013", "003", "0-1", "-01", "abc", "01 ", " 01", "01\n", "012\n", "1.2",
            "0\u00b2\u00b9", "\u0660\u0661\u0662", "\uff10\uff11\uff12", "01\u0662", "01\x00", "0" * 500,
            0, 12, 210, 222, -1, 10 ** 19, b"012", bytearray(b"012"), ("0", "1", "2"), ["0", "1", "2"], (0, 1, 2),
            {"0": 0, "1": 0, "2": 0}, Board("abc", 3), nested(15)] + strange_objects()

LARGEST = Board(ALPHABET, 6)


class MarksTest(unittest.TestCase):
    def test_each_pair_of_words_on_small_boards(self):
        for letters, length in [("ab", 1), ("ab", 2), ("ab", 3), ("ab", 4), ("ab", 6), ("abc", 3), ("abc", 4),
                                ("bdf", 2), ("abcd", 3), ("abcde", 2), (ALPHABET, 1)]:
            board = Board(letters, length)
            words = all_words(letters, length)
            for guess in words:
                for word in words:
                    self.assertEqual(marks(board, guess, word), marks_by_definition(guess, word), (guess, word))

    def test_by_hand_with_several_copies(self):
        board = Board("abcde", 4)
        told = [("aabb", "aabb", "2222"), ("aabb", "bbaa", "1111"), ("aabb", "abab", "2112"), ("aaaa", "bbab", "0020"),
                ("aaab", "cada", "1200"), ("aaba", "acca", "2002"), ("abaa", "caad", "1020"), ("eeee", "abcd", "0000"),
                ("abca", "aaaa", "2002"), ("bbba", "abbb", "1221"), ("aacc", "ccca", "1021")]
        for guess, word, wanted in told:
            self.assertEqual(marks(board, guess, word), wanted, (guess, word))

    def test_a_later_copy_in_its_place_counts_from_the_start(self):
        board = Board("abc", 3)
        self.assertEqual(marks(board, "aab", "cab"), "022")
        self.assertEqual(marks(board, "aac", "bac"), "022")
        self.assertEqual(marks(board, "baa", "cca"), "002")
        self.assertEqual(marks(board, "aba", "caa"), "102")

    def test_the_leftmost_of_the_other_copies_is_marked(self):
        board = Board("abcd", 4)
        self.assertEqual(marks(board, "aabc", "dddd"), "0000")
        self.assertEqual(marks(board, "aabc", "ddad"), "1000")
        self.assertEqual(marks(board, "aaab", "ddda"), "1000")
        self.assertEqual(marks(board, "daaa", "aabb"), "0210")

    def test_long_words_by_hand(self):
        told = [("abcdef", "abcdef", "222222"), ("abcdef", "bcdefa", "111111"), ("abcdef", "ghijkl", "000000"),
                ("zzzzzz", "azbzcz", "020202"), ("azbzcz", "zzzzzz", "020202"), ("letter", "settle", "122210"),
                ("banana", "ananas", "011111"), ("zyxzyx", "xyzzzy", "121210")]
        for guess, word, wanted in told:
            self.assertEqual(marks(LARGEST, guess, word), wanted, (guess, word))

    def test_many_long_words_by_definition(self):
        for board in (LARGEST, Board("abcdef", 6), Board("abc", 6), Board("mnopqrstuvwxyz", 5)):
            words = [board.word(number * 15485863 % board.size) for number in range(60)]
            for guess in words:
                for word in words:
                    self.assertEqual(marks(board, guess, word), marks_by_definition(guess, word), (guess, word))

    def test_shortest_words(self):
        board = Board("ab", 1)
        self.assertEqual([marks(board, "a", "a"), marks(board, "a", "b"), marks(board, "b", "a")], ["2", "0", "0"])

    def test_result_is_a_string(self):
        self.assertIs(type(marks(Board("abc", 3), "aab", "aba")), str)

    def test_arguments_by_name(self):
        board = Board("abc", 3)
        self.assertEqual(marks(board=board, guess="aaa", word="aba"), "202")
        self.assertEqual(marks(word="aba", guess="bbc", board=board), "020")
        self.assertEqual(marks(board, word="aba", guess="bbc"), "020")

    def test_guess_and_word_are_not_exchanged(self):
        board = Board("abc", 3)
        self.assertEqual([marks(board, "abb", "cca"), marks(board, "cca", "abb")], ["100", "001"])


class MarksErrorsTest(unittest.TestCase):
    def test_what_is_no_board(self):
        for board in NO_BOARDS:
            refuses_value(self, NotABoard, board, marks, board, "abc", "abc")
            refuses_value(self, NotABoard, board, marks, word="abc", guess="abc", board=board)

    def test_what_is_no_word(self):
        board = Board("abc", 3)
        for word in NO_WORDS:
            refuses_value(self, InvalidWord, word, marks, board, word, "abc")
            refuses_value(self, InvalidWord, word, marks, board, "abc", word)
            refuses_value(self, InvalidWord, word, marks, word="abc", guess=word, board=board)

    def test_a_word_of_another_board_is_refused(self):
        refuses_value(self, InvalidWord, "abcdeA", marks, LARGEST, "abcdeA", "abcdef")
        refuses_value(self, InvalidWord, "abcde", marks, LARGEST, "abcdef", "abcde")
        refuses_value(self, InvalidWord, "abcdefg", marks, LARGEST, "abcdef", "abcdefg")
        refuses_value(self, InvalidWord, "b", marks, Board("ac", 1), "a", "b")

    def test_the_board_is_refused_first(self):
        for board in (None, "abc 3", True, 3):
            refuses_value(self, NotABoard, board, marks, board, "x", "y")
            refuses_value(self, NotABoard, board, marks, word=None, guess=None, board=board)

    def test_the_guess_is_refused_ahead_of_the_word(self):
        board = Board("abc", 3)
        for guess, word in [("abx", "aby"), ("ab", "abcd"), (None, 3), ("", None), ([1], [1])]:
            refuses_value(self, InvalidWord, guess, marks, board, guess, word)
            refuses_value(self, InvalidWord, guess, marks, word=word, guess=guess, board=board)


class CanComeTest(unittest.TestCase):
    def test_each_guess_with_each_string_of_marks_on_small_boards(self):
        for letters, length in [("ab", 1), ("ab", 2), ("ab", 3), ("ab", 4), ("ab", 5), ("abc", 1), ("abc", 2),
                                ("abc", 3), ("bdf", 4), ("abcd", 2), ("abcd", 3), ("abcd", 4), ("abcde", 3),
                                ("aeiouy", 3)]:
            board = Board(letters, length)
            words = all_words(letters, length)
            for guess in words:
                given = {marks_by_definition(guess, word) for word in words}
                for told in all_marks(length):
                    self.assertIs(can_come(board, guess, told), told in given, (str(board), guess, told))

    def test_some_guesses_of_length_six_on_boards_with_few_letters(self):
        for letters, guesses in [("ab", ["aaaaaa", "ababab", "aabbbb"]), ("abc", ["aabbcc", "abcabc", "aaaabb"]),
                                 ("abcdef", ["abcdef", "aabbcd"])]:
            board = Board(letters, 6)
            words = all_words(letters, 6)
            for guess in guesses:
                given = {marks_by_definition(guess, word) for word in words}
                for told in all_marks(6):
                    self.assertIs(can_come(board, guess, told), told in given, (letters, guess, told))

    def test_some_guesses_on_the_largest_board(self):
        for guess in ["abcdef", "aabbcc", "aaabbb", "abcabc", "abacad", "zzzzzz", "zyzyzy", "letter", "banana"]:
            # All letters that the guess lacks get the same marks, so that one of them can stand for all.
            other = [letter for letter in ALPHABET if letter not in guess][0]
            words = all_words(sorted(set(guess + other)), 6)
            given = {marks_by_definition(guess, word) for word in words}
            for told in all_marks(6):
                self.assertIs(can_come(LARGEST, guess, told), told in given, (guess, told))

    def test_the_marks_of_long_words_can_come(self):
        words = [LARGEST.word(number * 15485863 % LARGEST.size) for number in range(60)]
        for guess in words:
            for word in words:
                self.assertIs(can_come(LARGEST, guess, marks_by_definition(guess, word)), True, (guess, word))

    def test_twos_alone_can_always_come(self):
        for letters, length in [("ab", 1), ("ab", 6), ("abc", 3), (ALPHABET, 1), (ALPHABET, 6)]:
            board = Board(letters, length)
            for number in (0, 1, board.size // 2, board.size - 1):
                self.assertIs(can_come(board, board.word(number), "2" * length), True)

    def test_zeros_alone_need_a_letter_that_the_guess_lacks(self):
        self.assertIs(can_come(Board("ab", 2), "aa", "00"), True)
        self.assertIs(can_come(Board("ab", 2), "ab", "00"), False)
        self.assertIs(can_come(Board("abc", 3), "abc", "000"), False)
        self.assertIs(can_come(Board("abcd", 3), "abc", "000"), True)
        self.assertIs(can_come(Board("abcdef", 6), "abcdef", "000000"), False)
        self.assertIs(can_come(Board("abcdefg", 6), "abcdef", "000000"), True)
        self.assertIs(can_come(LARGEST, "uvwxyz", "000000"), True)

    def test_mixed_marks_by_hand(self):
        told = [("abcdef", "111111", True), ("abcdef", "222221", False), ("abcdef", "222220", True),
                ("abcdef", "222211", True), ("abcdef", "222210", True), ("abcdef", "000001", True),
                ("aaaaaa", "111111", False), ("aaaaaa", "000001", False), ("aaaaaa", "200000", True),
                ("aaaaaa", "222221", False), ("aaaabb", "111100", False), ("aaabbb", "111111", True),
                ("aaaabb", "110011", True), ("aaaabb", "111011", False), ("aabbcc", "100000", True),
                ("aabbcc", "010000", False), ("aabbcc", "020000", True), ("aabbcc", "120000", True),
                ("aabbcc", "210000", True), ("aabbcc", "012000", False), ("aabbcc", "101010", True)]
        for guess, marked, wanted in told:
            self.assertIs(can_come(LARGEST, guess, marked), wanted, (guess, marked))

    def test_a_mark_one_after_a_zero_of_the_same_letter_never_comes(self):
        board = Board("abcde", 4)
        for told in ("0100", "0120", "0010", "2010", "0021", "0001"):
            self.assertIs(can_come(board, "aaaa", told), False)
        self.assertIs(can_come(board, "aabb", "0110"), False)
        self.assertIs(can_come(board, "abab", "0110"), False)
        self.assertIs(can_come(board, "abab", "0210"), False)
        self.assertIs(can_come(board, "abab", "0201"), True)
        self.assertIs(can_come(board, "abab", "1001"), False)
        self.assertIs(can_come(board, "abab", "1000"), True)

    def test_the_alphabet_of_the_board_decides(self):
        self.assertIs(can_come(Board("abc", 3), "abc", "100"), False)
        self.assertIs(can_come(Board("abcd", 3), "abc", "100"), True)
        self.assertIs(can_come(Board("ab", 3), "aab", "110"), False)
        self.assertIs(can_come(Board("ab", 3), "aab", "201"), False)
        self.assertIs(can_come(Board("abc", 3), "aab", "201"), True)

    def test_arguments_by_name(self):
        board = Board("abc", 3)
        self.assertIs(can_come(board=board, guess="aab", told="211"), True)
        self.assertIs(can_come(told="010", guess="aab", board=board), False)


class CanComeErrorsTest(unittest.TestCase):
    def test_what_is_no_board(self):
        for board in NO_BOARDS:
            refuses_value(self, NotABoard, board, can_come, board, "abc", "012")
            refuses_value(self, NotABoard, board, can_come, told="012", guess="abc", board=board)

    def test_what_is_no_word(self):
        board = Board("abc", 3)
        for guess in NO_WORDS:
            refuses_value(self, InvalidWord, guess, can_come, board, guess, "012")
            refuses_value(self, InvalidWord, guess, can_come, told="012", guess=guess, board=board)

    def test_what_is_no_string_of_marks(self):
        board = Board("abc", 3)
        for guess in ("abc", "aaa", "cab"):
            for told in NO_MARKS:
                refuses_value(self, InvalidMarks, told, can_come, board, guess, told)
                refuses_value(self, InvalidMarks, told, can_come, told=told, guess=guess, board=board)

    def test_marks_of_another_length_are_refused(self):
        for length in range(1, 7):
            for other in [many for many in range(9) if many != length]:
                told = "2" * other
                refuses_value(self, InvalidMarks, told, can_come, Board("ab", length), "a" * length, told)

    def test_the_board_is_refused_first(self):
        for board in (None, "abc 3", True, 3):
            refuses_value(self, NotABoard, board, can_come, board, "x", "y")
            refuses_value(self, NotABoard, board, can_come, told=None, guess=None, board=board)

    def test_the_guess_is_refused_ahead_of_the_marks(self):
        board = Board("abc", 3)
        for guess, told in [("abx", "013"), ("ab", "01"), (None, 3), ("012", "abc"), ("", None), ([1], [1])]:
            refuses_value(self, InvalidWord, guess, can_come, board, guess, told)
            refuses_value(self, InvalidWord, guess, can_come, told=told, guess=guess, board=board)

    def test_marks_are_checked_also_where_no_word_gives_them(self):
        refuses_value(self, InvalidMarks, "0103", can_come, Board("ab", 4), "aaaa", "0103")
        refuses_value(self, InvalidMarks, "01", can_come, Board("ab", 4), "aaaa", "01")


class UnchangedTest(unittest.TestCase):
    def test_no_call_changes_the_board_or_later_results(self):
        board = Board("abc", 3)
        first = [(marks(board, guess, "aba"), can_come(board, guess, "110")) for guess in all_words("abc", 3)]
        for guess, told in [("abx", "012"), ("abc", "013"), (None, None)]:
            for call in (marks, can_come):
                with self.assertRaises((InvalidWord, InvalidMarks)):
                    call(board, guess, told)
        second = [(marks(board, guess, "aba"), can_come(board, guess, "110")) for guess in all_words("abc", 3)]
        self.assertEqual(first, second)
        self.assertEqual((board.letters, board.length, board.size, str(board)), ("abc", 3, 27, "abc 3"))

    def test_equal_boards_give_equal_results(self):
        for guess in all_words("abc", 3):
            self.assertEqual(marks(Board("abc", 3), guess, "cab"), marks(Board("abc", 3), guess, "cab"))


class PlaceTest(unittest.TestCase):
    def test_the_functions_are_defined_where_they_are_listed(self):
        self.assertEqual(marking.marks.__module__, "guessmarks.marking")
        self.assertEqual(marking.can_come.__module__, "guessmarks.marking")


if __name__ == "__main__":
    unittest.main()
