"""Class Board (points [3] to [6]; interface, guessmarks/boards.py)."""

import unittest

from guessmarks import boards
from guessmarks.boards import Board
from guessmarks.errors import InvalidLength, InvalidLetters, InvalidNumber, InvalidWord
from tests.support import ALPHABET, Lookalike, all_words, nested, refused, refuses_value, strange_objects

ALPHABETS = ["ab", "az", "yz", "abc", "bdf", "aeiou", "abcdefghij", "mnopqrstuvwxyz", ALPHABET[:-1], ALPHABET[1:],
             ALPHABET]

SMALL_BOARDS = [("ab", 1), ("ab", 2), ("ab", 6), ("xz", 3), ("abc", 1), ("abc", 3), ("bdf", 4), ("abcde", 4),
                ("aeiou", 3), ("abcdefghij", 2), (ALPHABET, 1), (ALPHABET, 2), ("mnopqrstuvwxyz", 3)]

NO_ALPHABETS = ["", "a", "z", " ", "  ", "aa", "zz", "ba", "zy", "aab", "abb", "aba", "acb", "abdc", "bac", "cba",
                "AB", "Ab", "aB", "ABC", "abC", "12", "a1", "1a", "0ab", "ab ", " ab", "a b", "ab\n", "\nab", "a,b",
                "a-b", "ab.", "a_", "_a", "`a", "z{", "ab{", "a{", "ab\x00", "\x00a", "a\u00e4", "\u00e4\u00f6",
                "ab\u00df", "a\u0431", "\u0430\u0431", "\uff41\uff42", "\u03b1\u03b2", "a\u00b2", "\u4e00\u4e8c",
                "a\U0001d41b", "a\ud800", ALPHABET + "a", ALPHABET + "z", ALPHABET + "{", "a" + ALPHABET,
                "`" + ALPHABET, ALPHABET + "\u00e4", ALPHABET[::-1], ALPHABET.upper(), ALPHABET * 2,
                "a" * 27, "a" * 500, "ab" * 250, "abc 3"]

NO_LENGTHS = [0, 7, 8, 26, 100, -1, -2, -6, 10 ** 19, -(10 ** 19), 10 ** 20 - 1, "", "1", "3", "abc", b"3", (3,), [3]]

NO_NUMBERS_ANYWHERE = [-1, -2, -27, -(10 ** 19), 10 ** 19, 10 ** 20 - 1, "", "0", "5", "abc", b"0", (0,), [0]]


class CreationTest(unittest.TestCase):
    def test_all_alphabets_with_all_lengths(self):
        for letters in ALPHABETS:
            for length in range(1, 7):
                board = Board(letters, length)
                self.assertEqual((board.letters, board.length), (letters, length))
                self.assertIs(type(board.letters), str)
                self.assertIs(type(board.length), int)

    def test_an_alphabet_of_each_number_of_letters(self):
        for many in range(2, 27):
            self.assertEqual(Board(ALPHABET[:many], 1).letters, ALPHABET[:many])
            self.assertEqual(Board(ALPHABET[-many:], 6).letters, ALPHABET[-many:])

    def test_arguments_by_name(self):
        self.assertEqual(Board(letters="abc", length=3), Board("abc", 3))
        self.assertEqual(Board(length=3, letters="abc"), Board("abc", 3))
        self.assertEqual(Board("abc", length=3), Board("abc", 3))

    def test_strings_that_are_no_alphabet(self):
        for letters in NO_ALPHABETS:
            refuses_value(self, InvalidLetters, letters, Board, letters, 3)

    def test_other_objects_that_are_no_alphabet(self):
        others = [0, 1, 3, -1, 10 ** 19, b"ab", bytearray(b"ab"), ("a", "b"), ["a", "b"], ("ab",), ["ab"],
                  {"a": 1, "b": 2}, {"a", "b"}, ("ab", 3), Board("ab", 3), nested(15)]
        for letters in others + strange_objects():
            refuses_value(self, InvalidLetters, letters, Board, letters, 3)
            refuses_value(self, InvalidLetters, letters, Board, length=3, letters=letters)

    def test_one_misplaced_letter_anywhere_in_the_largest_alphabet(self):
        for at in range(25):
            letters = ALPHABET[:at] + ALPHABET[at + 1] + ALPHABET[at] + ALPHABET[at + 2:]
            refuses_value(self, InvalidLetters, letters, Board, letters, 1)
            letters = ALPHABET[:at] + ALPHABET[at] * 2 + ALPHABET[at + 2:]
            refuses_value(self, InvalidLetters, letters, Board, letters, 1)
            letters = ALPHABET[:at] + ALPHABET[at].upper() + ALPHABET[at + 1:]
            refuses_value(self, InvalidLetters, letters, Board, letters, 1)

    def test_no_character_but_a_lowercase_ascii_letter(self):
        for code in range(0x250):
            for pair in ("m" + chr(code), chr(code) + "m"):
                if "a" <= pair[0] < pair[1] <= "z":
                    self.assertEqual(Board(pair, 1).letters, pair)
                else:
                    refuses_value(self, InvalidLetters, pair, Board, pair, 1)

    def test_lengths_that_are_none(self):
        for length in NO_LENGTHS + strange_objects():
            refuses_value(self, InvalidLength, length, Board, "abc", length)
            refuses_value(self, InvalidLength, length, Board, length=length, letters=ALPHABET)

    def test_true_and_false_are_no_lengths(self):
        refuses_value(self, InvalidLength, True, Board, "ab", True)
        refuses_value(self, InvalidLength, False, Board, "ab", False)

    def test_letters_are_refused_ahead_of_the_length(self):
        for letters in ["", "a", "ba", "AB", None, 3, True, ["a", "b"], ALPHABET + "a"]:
            for length in [0, 7, -1, True, None, "3", "ab", [3]]:
                refuses_value(self, InvalidLetters, letters, Board, letters, length)
                refuses_value(self, InvalidLetters, letters, Board, length=length, letters=letters)


class SizeTest(unittest.TestCase):
    def test_sizes(self):
        self.assertEqual(Board("ab", 1).size, 2)
        self.assertEqual(Board("ab", 6).size, 64)
        self.assertEqual(Board("abc", 3).size, 27)
        self.assertEqual(Board("abcde", 4).size, 625)
        self.assertEqual(Board(ALPHABET, 1).size, 26)
        self.assertEqual(Board(ALPHABET, 6).size, 308915776)
        self.assertEqual(Board(ALPHABET[:25], 6).size, 244140625)

    def test_size_is_the_number_of_words(self):
        for letters in ALPHABETS:
            for length in range(1, 7):
                size = Board(letters, length).size
                self.assertIs(type(size), int)
                self.assertEqual(size, len(letters) ** length)


class WordTest(unittest.TestCase):
    def test_all_words_of_small_boards_in_order(self):
        for letters, length in SMALL_BOARDS:
            board = Board(letters, length)
            words = all_words(letters, length)
            self.assertEqual([board.word(number) for number in range(board.size)], words)
            self.assertEqual([board.number(word) for word in words], list(range(board.size)))

    def test_words_and_numbers_by_hand(self):
        board = Board("abc", 3)
        told = {0: "aaa", 1: "aab", 2: "aac", 3: "aba", 5: "abc", 9: "baa", 11: "bac", 13: "bbb", 26: "ccc"}
        for number, word in told.items():
            self.assertEqual(board.word(number), word)
            self.assertEqual(board.number(word), number)

    def test_first_and_last_word(self):
        for letters in ALPHABETS:
            for length in range(1, 7):
                board = Board(letters, length)
                self.assertEqual(board.word(0), letters[0] * length)
                self.assertEqual(board.word(board.size - 1), letters[-1] * length)
                self.assertEqual(board.number(letters[0] * length), 0)
                self.assertEqual(board.number(letters[-1] * length), board.size - 1)

    def test_there_and_back_on_large_boards(self):
        for letters, length in [(ALPHABET, 6), (ALPHABET, 5), (ALPHABET[1:], 6), ("aeiou", 6), ("bdf", 6)]:
            board = Board(letters, length)
            numbers = sorted({number % board.size for number in range(0, 10 ** 12, 2718281829)})
            words = [board.word(number) for number in numbers]
            self.assertEqual([board.number(word) for word in words], numbers)
            self.assertEqual(words, sorted(words))
            self.assertEqual(len(words), len(set(words)))
            for word in words:
                self.assertIs(type(word), str)
                self.assertEqual((len(word), word.strip(letters)), (length, ""))

    def test_neighbours_on_the_largest_board(self):
        board = Board(ALPHABET, 6)
        told = {25: "aaaaaz", 26: "aaaaba", 26 ** 5 - 1: "azzzzz", 26 ** 5: "baaaaa", 26 ** 6 - 2: "zzzzzy"}
        for number, word in told.items():
            self.assertEqual(board.word(number), word)
            self.assertEqual(board.number(word), number)

    def test_arguments_by_name(self):
        board = Board("abc", 3)
        self.assertEqual(board.word(number=5), "abc")
        self.assertEqual(board.number(word="bac"), 11)

    def test_results_are_plain(self):
        board = Board("abc", 3)
        self.assertIs(type(board.word(5)), str)
        self.assertIs(type(board.number("aaa")), int)

    def test_what_is_no_number(self):
        for letters, length in SMALL_BOARDS + [(ALPHABET, 6)]:
            board = Board(letters, length)
            for number in NO_NUMBERS_ANYWHERE + [board.size, board.size + 1, 2 * board.size, -board.size]:
                refuses_value(self, InvalidNumber, number, board.word, number)
                refuses_value(self, InvalidNumber, number, board.word, number=number)

    def test_other_objects_that_are_no_number(self):
        board = Board("abc", 3)
        for number in strange_objects() + [board, nested(15)]:
            refuses_value(self, InvalidNumber, number, board.word, number)

    def test_true_and_false_are_no_numbers(self):
        board = Board("abc", 3)
        refuses_value(self, InvalidNumber, True, board.word, True)
        refuses_value(self, InvalidNumber, False, board.word, False)

    def test_what_is_no_word(self):
        board = Board("abd", 3)
        no_words = ["", "a", "ab", "abda", "ab" * 250, "abc", "cab", "bca", "aab\n", "ab\n", "\nab", "ab ", " ab",
                    "ABD", "Abd", "abD", "a\u00e4b", "\uff41bd", "abx", "123", "012", "a-b", "ab\x00", "ab\ud800"]
        for word in no_words:
            refuses_value(self, InvalidWord, word, board.number, word)
            refuses_value(self, InvalidWord, word, board.number, word=word)

    def test_other_objects_that_are_no_word(self):
        board = Board("abc", 3)
        others = [0, 5, 26, -1, 10 ** 19, b"abc", bytearray(b"abc"), ("a", "b", "c"), ["a", "b", "c"], ("abc",),
                  {"a": 0, "b": 0, "c": 0}, {"a", "b", "c"}, board, nested(15)]
        for word in others + strange_objects():
            refuses_value(self, InvalidWord, word, board.number, word)

    def test_a_word_of_another_board_is_refused(self):
        refuses_value(self, InvalidWord, "aaaa", Board("ab", 3).number, "aaaa")
        refuses_value(self, InvalidWord, "aac", Board("ab", 3).number, "aac")
        refuses_value(self, InvalidWord, "b", Board("ac", 1).number, "b")
        refuses_value(self, InvalidWord, "aaaaa", Board(ALPHABET, 6).number, "aaaaa")
        refuses_value(self, InvalidWord, "aaaaaaa", Board(ALPHABET, 6).number, "aaaaaaa")
        refuses_value(self, InvalidWord, "aaaaaA", Board(ALPHABET, 6).number, "aaaaaA")


class TextTest(unittest.TestCase):
    def test_str_and_repr(self):
        for letters in ALPHABETS:
            for length in range(1, 7):
                board = Board(letters, length)
                self.assertEqual(str(board), letters + " " + str(length))
                self.assertEqual(repr(board), "Board(" + letters + " " + str(length) + ")")

    def test_by_hand(self):
        self.assertEqual(str(Board("ab", 1)), "ab 1")
        self.assertEqual(repr(Board("abc", 3)), "Board(abc 3)")
        self.assertEqual(str(Board(ALPHABET, 6)), "abcdefghijklmnopqrstuvwxyz 6")
        self.assertEqual(f"{Board('xy', 2)}", "xy 2")
        self.assertEqual([Board("xy", 2)].__repr__(), "[Board(xy 2)]")


class EqualityTest(unittest.TestCase):
    def test_equal_exactly_if_letters_and_lengths_are(self):
        kinds = [(letters, length) for letters in ALPHABETS for length in range(1, 7)]
        for one in kinds:
            for two in kinds:
                self.assertIs(Board(*one) == Board(*two), one == two)
                self.assertIs(Board(*one) != Board(*two), one != two)

    def test_a_board_equals_itself(self):
        board = Board("abc", 3)
        self.assertIs(board == board, True)
        self.assertIs(board != board, False)

    def test_letters_made_anew(self):
        self.assertIs(Board("".join(["a", "b"]), 2) == Board("ab", 2), True)

    def test_boards_of_the_same_size_differ(self):
        self.assertIs(Board("ab", 2) == Board("abcd", 1), False)
        self.assertIs(Board("ab", 2) == Board("ac", 2), False)
        self.assertIs(Board("ab", 2) != Board("abcd", 1), True)

    def test_a_board_is_equal_to_no_other_object(self):
        board = Board("abc", 3)
        others = strange_objects() + ["abc 3", "Board(abc 3)", "abc", 3, 27, 0, ("abc", 3), ["abc", 3],
                                      {"letters": "abc", "length": 3}, (board,), [board], Lookalike()]
        for other in others:
            self.assertIs(board == other, False)
            self.assertIs(board != other, True)
        for other in strange_objects() + ["abc 3", 3, ("abc", 3), Lookalike()]:
            self.assertIs(other == board, False)
            self.assertIs(other != board, True)

    def test_found_in_a_list(self):
        self.assertIn(Board("abc", 3), [None, "abc 3", Board("abc", 3)])
        self.assertNotIn(Board("abc", 3), [None, "abc 3", Board("abc", 2)])


class TruthTest(unittest.TestCase):
    def test_every_board_is_true(self):
        for letters in ALPHABETS:
            for length in range(1, 7):
                self.assertIs(bool(Board(letters, length)), True)


class UnchangedTest(unittest.TestCase):
    def look(self, board):
        return (board.letters, board.length, board.size, str(board), repr(board), board.word(5), board.number("cab"))

    def test_no_call_changes_a_board(self):
        board = Board("abc", 3)
        before = self.look(board)
        for number in list(range(27)) + [-1, 27, True, None, "0"]:
            for word in ["aaa", "ccc", "abd", "", None, 3]:
                try:
                    board.word(number)
                except InvalidNumber:
                    pass
                try:
                    board.number(word)
                except InvalidWord:
                    pass
        self.assertEqual(board == "abc 3", False)
        self.assertEqual(self.look(board), before)

    def test_boards_do_not_share_anything(self):
        one, two = Board("abc", 3), Board("abcd", 2)
        self.assertEqual((one.size, two.size), (27, 16))
        self.assertEqual((one.word(26), two.word(15)), ("ccc", "dd"))
        self.assertEqual((one.letters, one.length, two.letters, two.length), ("abc", 3, "abcd", 2))

    def test_the_same_call_gives_the_same_result(self):
        board = Board("abc", 3)
        self.assertEqual({board.word(11) for _ in range(5)}, {"bac"})
        self.assertEqual({board.number("bac") for _ in range(5)}, {11})

    def test_a_refused_board_leaves_others_alone(self):
        board = Board("abc", 3)
        refused(self, InvalidLetters, Board, "cba", 3)
        refused(self, InvalidLength, Board, "abc", 7)
        self.assertEqual(self.look(board), ("abc", 3, 27, "abc 3", "Board(abc 3)", "abc", 19))


class PlaceTest(unittest.TestCase):
    def test_the_class_and_its_methods_are_defined_where_they_are_listed(self):
        self.assertEqual(boards.Board.__module__, "guessmarks.boards")
        self.assertIn("word", vars(Board))
        self.assertIn("number", vars(Board))


if __name__ == "__main__":
    unittest.main()
