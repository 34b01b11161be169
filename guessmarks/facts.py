"""Facts: what a fact about the hidden word is."""

from guessmarks.checks import is_integer_within, is_text_over
from guessmarks.errors import InvalidFact, InvalidFacts
from guessmarks.limits import MOST_FACTS


def is_fact(board, value):
    """Tell whether the value is a fact of the board."""
    if not isinstance(value, tuple) or len(value) != 3:
        return False
    kind, first, second = value
    if not isinstance(kind, str):
        return False
    if kind in ("at", "not"):
        return is_integer_within(first, 0, board.length - 1) and is_letter(board, second)
    if kind in ("least", "most"):
        return is_letter(board, first) and is_integer_within(second, 0, board.length)
    return False


def is_letter(board, value):
    """Tell whether the value is a letter of the board."""
    return is_text_over(value, board.letters, 1)


def check_fact(board, fact):
    """Raise InvalidFact unless this is a fact of the board."""
    if not is_fact(board, fact):
        raise InvalidFact(fact)


def check_facts(board, facts):
    """Raise InvalidFacts if there are too many of them, or if one is not a fact of the board."""
    if len(facts) > MOST_FACTS:
        raise InvalidFacts(None)
    for index, fact in enumerate(facts):
        if not is_fact(board, fact):
            raise InvalidFacts(index)


def has_fact(word, fact):
    """Tell whether a word has a fact, both known to be of one board."""
    kind, first, second = fact
    if kind == "at":
        return word[first] == second
    if kind == "not":
        return word[first] != second
    if kind == "least":
        return word.count(first) >= second
    return word.count(first) <= second
