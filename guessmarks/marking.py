"""Marks: the answer to a guess, and which answers a guess can get."""

from guessmarks.boards import check_board
from guessmarks.checks import check_marks, check_word
from guessmarks.words import has_word


def marks(board, guess, word):
    """Return the marks of the guess if the word is the hidden one."""
    check_board(board)
    check_word(board, guess)
    check_word(board, word)
    return marks_of(guess, word)


def marks_of(guess, word):
    """Return the marks of a guess for a hidden word, both known to be words of one board."""
    # The copies that give a mark 2 count from the start, so a mark 1 never uses one of them.
    unmatched = [hidden for letter, hidden in zip(guess, word) if letter != hidden]
    told = ""
    for letter, hidden in zip(guess, word):
        if letter == hidden:
            told += "2"
        elif letter in unmatched:
            unmatched.remove(letter)
            told += "1"
        else:
            told += "0"
    return told


def can_come(board, guess, told):
    """Tell whether some word of the board gives the guess these marks."""
    check_board(board)
    check_word(board, guess)
    check_marks(board, told)
    return has_word(board, ((guess, told),), ())
