"""table_text and answer_text (points [4], [5], [8]; interface, guessmarks/reports.py)."""

import unittest
from random import Random

from guessmarks import reports
from guessmarks.boards import Board
from guessmarks.errors import InvalidWord, NotAHistory
from guessmarks.guessing import answers
from guessmarks.histories import History
from guessmarks.reports import answer_text, table_text
from guessmarks.samples import sample_history
from guessmarks.tables import table
from tests.support import (ALPHABET, all_words, chosen_cases, counted_answers, marked, no_histories, no_words,
                           refuses_value, table_of_words, words_that_fit)

BOARD = Board("abc", 3)
LARGEST = Board(ALPHABET, 6)
NOTHING_LEFT = History(BOARD, ("abc", "222"), ("aaa", "000"))


def text_of_table(letters, told):
    """Return the text of a table by its definition."""
    if told is None:
        return "none"
    text = ""
    for place in range(len(told[0])):
        text += str(place) + ": " + told[0][place] + "\n"
    for at, letter in enumerate(letters):
        text += letter + ": " + str(told[1][at][0]) + "-" + str(told[1][at][1]) + "\n"
    return text[:-1]


def text_of_answers(pairs):
    """Return the text of answers by its definition."""
    text = ""
    for told, number in pairs:
        text += ("\n" if text else "") + told + " " + str(number)
    return text


class ReportsTest(unittest.TestCase):
    def test_small_boards(self):
        choose = Random(95)
        for letters, length, rows in chosen_cases():
            words = all_words(letters, length)
            left = words_that_fit(words, rows)
            history = History(Board(letters, length), *rows)
            self.assertEqual(table_text(history), text_of_table(letters, table_of_words(letters, length, left)))
            guess = choose.choice(words)
            self.assertEqual(answer_text(history, guess), text_of_answers(counted_answers(guess, left)))

    def test_large_boards(self):
        for history in (History(LARGEST), marked(LARGEST, "letter", "kettle"), marked(LARGEST, "banana", "ananas"),
                        marked(LARGEST, "quartz", "quartz"), History(Board(ALPHABET, 1))):
            self.assertEqual(table_text(history), text_of_table(ALPHABET, table(history)))
            guess = history.board.word(history.board.size // 3)
            self.assertEqual(answer_text(history, guess), text_of_answers(answers(history, guess)))

    def test_by_hand(self):
        history = History(BOARD, ("abb", "100"))
        self.assertEqual(table_text(history), "0: c\n1: ac\n2: ac\na: 1-2\nb: 0-0\nc: 1-2")
        self.assertEqual(answer_text(history, "cac"), "211 1\n220 1\n222 1")
        self.assertEqual(answer_text(history, "bbb"), "000 3")
        self.assertEqual(table_text(History(Board("ab", 1))), "0: ab\na: 0-1\nb: 0-1")
        self.assertEqual(answer_text(History(LARGEST), "aaaaaa").split("\n")[0], "000000 244140625")

    def test_one_word_left(self):
        history = History(Board("abc", 2), ("ca", "22"))
        self.assertEqual(table_text(history), "0: c\n1: a\na: 1-1\nb: 0-0\nc: 1-1")
        self.assertEqual(answer_text(history, "ac"), "11 1")

    def test_no_word_left(self):
        for history in (NOTHING_LEFT, History(LARGEST, ("abcdef", "222221"))):
            self.assertEqual(table_text(history), "none")
            self.assertEqual(answer_text(history, history.board.word(0)), "")

    def test_arguments_by_name(self):
        self.assertEqual(table_text(history=NOTHING_LEFT), "none")
        self.assertEqual(answer_text(guess="aaaa", history=sample_history()), "0000 7")
        self.assertEqual(answer_text(history=sample_history(), guess="aaaa"), "0000 7")

    def test_what_is_refused(self):
        for history in no_histories(BOARD):
            refuses_value(self, NotAHistory, history, table_text, history)
            refuses_value(self, NotAHistory, history, table_text, history=history)
            for guess in ("abc", None):
                refuses_value(self, NotAHistory, history, answer_text, history, guess)
        for history in (History(BOARD), NOTHING_LEFT):
            for guess in no_words(3):
                refuses_value(self, InvalidWord, guess, answer_text, history, guess)
                refuses_value(self, InvalidWord, guess, answer_text, guess=guess, history=history)

    def test_the_functions_are_defined_where_they_are_listed(self):
        for call in (table_text, answer_text):
            self.assertEqual(call.__module__, "guessmarks.reports")
            self.assertIs(getattr(reports, call.__name__), call)


if __name__ == "__main__":
    unittest.main()
