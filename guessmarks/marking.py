"""Marks: the answer to a guess, and which answers a guess can get."""

from guessmarks.boards import check_board
from guessmarks.checks import check_marks, check_word


def marks(board, guess, word):
    """Return the marks of the guess if the word is the hidden one."""
    check_board(board)
    check_word(board, guess)
    check_word(board, word)
    return marks_of(guess, word)


def marks_of(guess, word):
    """Return the marks of a guess for a hidden word, both known to be words of one board."""
    # The copies that give a mark 2 count from the start, so a mark 1 never uses one of them.
    unmatched = [hidden for letter, hidden in zip(guess, word) if letter != hidden]
    told = ""
    for letter, hidden in zip(guess, word):
        if letter == hidden:
            told += "2"
        elif letter in unmatched:
            unmatched.remove(letter)
            told += "1"
        else:
            told += "0"
    return told


def can_come(board, guess, told):
    """Tell whether some word of the board gives the guess these marks."""
    check_board(board)
    check_word(board, guess)
    check_marks(board, told)
    if not is_in_order(guess, told):
        return False
    # The words are too many to be tried. A word gives these marks exactly if it has the guessed
    # letter at each 2 and another one elsewhere, contains each letter at least as often as it is
    # marked 1 or 2, and contains it no more often if a copy of it is marked 0.
    gaps = letters_marked(guess, told, "01")
    owed = letters_marked(guess, told, "1")
    used_up = letters_marked(guess, told, "0")
    spare = [letter for letter in board.letters if letter not in used_up]
    return can_fill(gaps, owed, spare)


def letters_marked(guess, told, wanted):
    """Return the letters of the guess, from left to right, that have one of the wanted marks."""
    return "".join([letter for letter, mark in zip(guess, told) if mark in wanted])


def is_in_order(guess, told):
    """Tell whether no letter is marked 0 to the left of a copy that is marked 1."""
    used_up = ""
    for letter, mark in zip(guess, told):
        if mark == "1" and letter in used_up:
            return False
        if mark == "0":
            used_up += letter
    return True


def can_fill(gaps, owed, spare):
    """Tell whether the gaps can be filled, none with the letter that the guess has there.

    Each owed letter has to be used once; spare letters can be used as often as wanted.
    """
    if len(owed) > len(gaps):
        return False
    if gaps == "":
        return True
    guessed, others = gaps[0], gaps[1:]
    for letter in owed:
        if letter != guessed and can_fill(others, owed.replace(letter, "", 1), spare):
            return True
    return any([letter != guessed for letter in spare]) and can_fill(others, owed, spare)
