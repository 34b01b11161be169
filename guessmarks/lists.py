"""Lists of guesses that are made in advance, and what they tell."""

from guessmarks.boards import check_board
from guessmarks.checks import check_guesses
from guessmarks.pairs import Pairs


def tried(board, guesses):
    """Return the letters that are tried at each place, and the greatest number of copies of each letter."""
    check_board(board)
    check_guesses(board, guesses)
    return tried_by(board, guesses)


def tried_by(board, guesses):
    """Return what guesses try that are known to be words of the board."""
    letters = tuple([letters_at(board, guesses, place) for place in range(board.length)])
    numbers = tuple([most_copies(guesses, letter) for letter in board.letters])
    return letters, numbers


def letters_at(board, guesses, place):
    """Return the letters that the guesses have at the place, in ascending order."""
    found = [guess[place] for guess in guesses]
    return "".join([letter for letter in board.letters if letter in found])


def most_copies(guesses, letter):
    """Return the greatest number of copies of the letter in one of the guesses."""
    return max([guess.count(letter) for guess in guesses], default=0)


def everything(board):
    """Return what is tried if each word of the board is a guess."""
    letters = tuple([board.letters for place in range(board.length)])
    numbers = tuple([board.length for letter in board.letters])
    return letters, numbers


def tells(board, guesses, other_guesses):
    """Tell whether the marks of all other guesses are told by the guesses."""
    return parting(board, guesses, other_guesses) is None


def tells_word(board, guesses):
    """Tell whether the guesses tell the hidden word itself."""
    return twins(board, guesses) is None


def parting(board, guesses, other_guesses):
    """Return two words that give the guesses the same marks and some other guess different ones, or None."""
    check_board(board)
    check_guesses(board, guesses)
    check_guesses(board, other_guesses)
    return Pairs(board, tried_by(board, guesses), tried_by(board, other_guesses)).first_pair()


def twins(board, guesses):
    """Return two different words that give all guesses the same marks, or None."""
    check_board(board)
    check_guesses(board, guesses)
    return Pairs(board, tried_by(board, guesses), everything(board)).first_pair()
