"""Checks of arguments that several modules share."""

from guessmarks.errors import InvalidGuesses, InvalidMarks, InvalidWord
from guessmarks.limits import MOST_GUESSES

MARKS = "012"


def is_integer_within(value, least, most):
    """Tell whether the value is an integer from least to most."""
    # Python counts True and False as integers, and the document does not.
    if isinstance(value, bool) or not isinstance(value, int):
        return False
    return least <= value <= most


def is_text_over(value, characters, length):
    """Tell whether the value is a string of this length that has only these characters."""
    if not isinstance(value, str) or len(value) != length:
        return False
    return all([character in characters for character in value])


def is_word(board, value):
    """Tell whether the value is a word of the board."""
    return is_text_over(value, board.letters, board.length)


def are_marks(board, value):
    """Tell whether the value is a string of marks of the board."""
    return is_text_over(value, MARKS, board.length)


def is_row(board, value):
    """Tell whether the value is a row of the board: a pair of a word and of its marks."""
    if not isinstance(value, tuple) or len(value) != 2:
        return False
    return is_word(board, value[0]) and are_marks(board, value[1])


def check_word(board, word):
    """Raise InvalidWord unless this is a word of the board."""
    if not is_word(board, word):
        raise InvalidWord(word)


def check_marks(board, told):
    """Raise InvalidMarks unless this is a string of marks of the board."""
    if not are_marks(board, told):
        raise InvalidMarks(told)


def check_guesses(board, guesses):
    """Raise InvalidGuesses unless this is a tuple of words of the board that is not too long."""
    if not isinstance(guesses, tuple) or len(guesses) > MOST_GUESSES:
        raise InvalidGuesses(None)
    for index, guess in enumerate(guesses):
        if not is_word(board, guess):
            raise InvalidGuesses(index)
