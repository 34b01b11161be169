"""Tables: what the rows of a history say about the hidden word."""

from guessmarks.bounds import Bounds
from guessmarks.errors import Mismatch, NoWord
from guessmarks.facts import check_fact, check_facts
from guessmarks.histories import check_history
from guessmarks.words import Words, has_word


def is_possible(history, *facts):
    """Tell whether a word is left that has all these facts."""
    check_history(history)
    check_facts(history.board, facts)
    return has_word(history.board, history.rows, facts)


def table(history):
    """Return the letters of each place and the numbers of copies of each letter, or None."""
    check_history(history)
    board = history.board
    if not has_word(board, history.rows, ()):
        return None
    found = occurrences(history)
    letters = tuple([letters_at(found, place) for place in range(board.length)])
    bounds = tuple([(numbers[0], numbers[-1]) for letter, places, numbers in found])
    return letters, bounds


def occurrences(history):
    """Return each letter with its places and its numbers of copies in words that are left."""
    bounds = Bounds(history.board, history.rows, ())
    known = {}
    found = []
    for letter in history.board.letters:
        # Letters of which the bounds say the same can change places with each other in all words.
        told = bounds.of_letter(letter)
        if told not in known:
            known[told] = (places_of_letter(history, letter), numbers_of_copies(history, letter))
        places, numbers = known[told]
        found.append((letter, places, numbers))
    return found


def places_of_letter(history, letter):
    """Return the places at which a word that is left has the letter."""
    board = history.board
    return [place for place in range(board.length) if has_word(board, history.rows, (("at", place, letter),))]


def numbers_of_copies(history, letter):
    """Return the numbers of copies of the letter that occur in words that are left."""
    numbers = []
    for number in range(history.board.length + 1):
        exactly = (("least", letter, number), ("most", letter, number))
        if has_word(history.board, history.rows, exactly):
            numbers.append(number)
    return numbers


def letters_at(found, place):
    """Return the letters that occur at the place."""
    return "".join([letter for letter, places, numbers in found if place in places])


def is_sure(history, fact):
    """Tell whether all words that are left have this fact."""
    check_history(history)
    check_fact(history.board, fact)
    many = Words(history.board, history.rows, ()).many()
    if many == 0:
        raise NoWord()
    return Words(history.board, history.rows, (fact,)).many() == many


def same_words(history, other_history):
    """Tell whether both histories leave the same words."""
    check_history(history)
    check_history(other_history)
    if history.board != other_history.board:
        raise Mismatch()
    board = history.board
    # The words that are left by both are the ones that fit the rows of both.
    many = Words(board, history.rows + other_history.rows, ()).many()
    return all([Words(board, rows, ()).many() == many for rows in (history.rows, other_history.rows)])
