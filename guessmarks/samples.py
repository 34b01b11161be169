"""A board and a history to try things out."""

from guessmarks.boards import Board
from guessmarks.histories import History


def sample_board():
    """Return the board with the letters abcde and the length 4."""
    return Board("abcde", 4)


def sample_history():
    """Return a history of the sample board with two rows."""
    return History(sample_board(), ("abcd", "0120"), ("aaea", "0010"))
