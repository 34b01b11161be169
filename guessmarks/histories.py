"""Histories: sequences of rows."""

from guessmarks.boards import check_board
from guessmarks.checks import check_marks, check_word, is_integer_within, is_row
from guessmarks.errors import InvalidPlace, InvalidRows, NotAHistory, NoWord, TooManyRows
from guessmarks.limits import MOST_ROWS
from guessmarks.marking import marks_of
from guessmarks.words import has_word


class History:
    """A sequence of rows of one board."""

    def __init__(self, board, *rows):
        check_board(board)
        check_rows(board, rows)
        self.board = board
        self.rows = rows

    def then(self, guess, told):
        """Return the history with one more row at the end."""
        check_word(self.board, guess)
        check_marks(self.board, told)
        if len(self.rows) == MOST_ROWS:
            raise TooManyRows(MOST_ROWS)
        return History(self.board, *self.rows, (guess, told))

    def without(self, place):
        """Return the history without the row at the place."""
        if not is_integer_within(place, 0, len(self.rows) - 1):
            raise InvalidPlace(place)
        others = self.rows[:place] + self.rows[place + 1:]
        return History(self.board, *others)

    def fits(self, word):
        """Tell whether the word fits all rows."""
        check_word(self.board, word)
        return all([marks_of(guess, word) == told for guess, told in self.rows])

    def __eq__(self, other):
        return isinstance(other, History) and self.board == other.board and self.rows == other.rows

    def __len__(self):
        return len(self.rows)

    def __str__(self):
        return "\n".join([f"{guess} {told}" for guess, told in self.rows])

    def __repr__(self):
        return f"History({len(self.rows)} rows)"


def check_rows(board, rows):
    """Raise InvalidRows if there are too many of them, or if one is not a row of the board."""
    if len(rows) > MOST_ROWS:
        raise InvalidRows(None)
    for index, row in enumerate(rows):
        if not is_row(board, row):
            raise InvalidRows(index)


def check_history(history):
    """Raise NotAHistory unless this is a History."""
    if not isinstance(history, History):
        raise NotAHistory(history)


def check_word_left(history):
    """Raise NoWord unless a word is left."""
    if not has_word(history.board, history.rows, ()):
        raise NoWord()
