"""What a further guess can be answered, and which guess is the best one."""

from guessmarks.checks import check_guesses, check_word
from guessmarks.errors import InvalidGuesses
from guessmarks.histories import check_history, check_word_left
from guessmarks.tallies import Tally


def answers(history, guess):
    """Return the marks that the guess can get from words that are left, each with its number of words."""
    check_history(history)
    check_word(history.board, guess)
    return answers_of(history, guess)


def answers_of(history, guess):
    """Return the answers of a guess that is known to be a word of the history's board."""
    return Tally(history.board, history.rows, guess).answers()


def worst_answer(history, guess):
    """Return the answer with the greatest number of words, and of several the first one."""
    check_history(history)
    check_word(history.board, guess)
    check_word_left(history)
    return worst_of(answers_of(history, guess))


def worst_of(pairs):
    """Return the first of the pairs (marks, number) that have the greatest number."""
    return max(pairs, key=lambda pair: pair[1])


def best_guess(history, guesses):
    """Return the guess whose worst answer leaves the fewest words."""
    check_history(history)
    check_guesses(history.board, guesses)
    if len(guesses) == 0:
        raise InvalidGuesses(None)
    check_word_left(history)
    return min(guesses, key=lambda guess: rank_of(history, guess))


def rank_of(history, guess):
    """Return what is smaller for a better guess: the worst number of words, then 0 for a guess that is left."""
    many = worst_of(answers_of(history, guess))[1]
    return (many, 0 if history.fits(guess) else 1)
