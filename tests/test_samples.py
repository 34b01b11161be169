"""sample_board and sample_history (interface, guessmarks/samples.py)."""

import unittest

from guessmarks import samples
from guessmarks.boards import Board
from guessmarks.histories import History
from guessmarks.samples import sample_board, sample_history


class SamplesTest(unittest.TestCase):
    def test_board(self):
        board = sample_board()
        self.assertIs(type(board), Board)
        self.assertEqual((board.letters, board.length), ("abcde", 4))
        self.assertEqual(board, Board("abcde", 4))

    def test_history(self):
        history = sample_history()
        self.assertIs(type(history), History)
        self.assertEqual(history.board, sample_board())
        self.assertEqual(history.rows, (("abcd", "0120"), ("aaea", "0010")))

    def test_each_call_gives_the_same(self):
        self.assertEqual(sample_board(), sample_board())
        self.assertEqual(sample_history(), sample_history())

    def test_the_functions_are_defined_where_they_are_listed(self):
        self.assertEqual(samples.sample_board.__module__, "guessmarks.samples")
        self.assertEqual(samples.sample_history.__module__, "guessmarks.samples")


if __name__ == "__main__":
    unittest.main()
