"""How many words are left, and their numbers."""

from guessmarks.checks import is_integer_within
from guessmarks.errors import InvalidNumber, WordNotLeft
from guessmarks.facts import check_facts
from guessmarks.histories import check_history
from guessmarks.words import Words


def count(history):
    """Return the number of words that are left."""
    check_history(history)
    return Words(history.board, history.rows, ()).many()


def nth_word(history, number):
    """Return the word with this number among the words that are left, in ascending order."""
    check_history(history)
    words = Words(history.board, history.rows, ())
    if not is_integer_within(number, 0, words.many() - 1):
        raise InvalidNumber(number)
    return words.nth(number)


def place_of(history, word):
    """Return the number of the word among the words that are left."""
    check_history(history)
    # What is no word at all is refused by the history itself.
    if not history.fits(word):
        raise WordNotLeft(word)
    return Words(history.board, history.rows, ()).place_of_word(word)


def count_with(history, *facts):
    """Return the number of words that are left and have all these facts."""
    check_history(history)
    check_facts(history.board, facts)
    return Words(history.board, history.rows, facts).many()
