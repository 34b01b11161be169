"""The checker: whether a paper shows a claim."""

from guessmarks.boards import Board, is_alphabet
from guessmarks.bounds import Bounds, is_in_order
from guessmarks.checks import is_integer_within, is_row, is_word
from guessmarks.facts import has_fact, is_fact, is_letter
from guessmarks.limits import MOST_FACTS, MOST_GUESSES, MOST_LENGTH, MOST_ROWS
from guessmarks.marking import marks_of


def holds(claim, paper):
    """Tell whether both have a form that the document lists and the paper shows the claim."""
    if not isinstance(claim, tuple) or len(claim) != 5:
        return False
    kind, letters, length, first, second = claim
    if not is_alphabet(letters) or not is_integer_within(length, 1, MOST_LENGTH):
        return False
    board = Board(letters, length)
    if not isinstance(kind, str):
        return False
    if kind == "parts":
        return are_guesses(board, first) and are_guesses(board, second) and shows_parts(board, first, second, paper)
    if not is_tuple_of(board, first, MOST_ROWS, is_row) or not is_tuple_of(board, second, MOST_FACTS, is_fact):
        return False
    if kind == "possible":
        return shows_possible(board, first, second, paper)
    return kind == "impossible" and shows_impossible(board, first, second, paper)


def is_tuple_of(board, value, most, is_part):
    """Tell whether the value is a tuple of at most so many parts of the board."""
    if not isinstance(value, tuple) or len(value) > most:
        return False
    return all([is_part(board, part) for part in value])


def are_guesses(board, value):
    """Tell whether the value is a list of guesses of the board."""
    return is_tuple_of(board, value, MOST_GUESSES, is_word)


def shows_possible(board, rows, facts, paper):
    """Tell whether the paper is a word that fits all rows and has all facts."""
    if not is_word(board, paper):
        return False
    fits = all([marks_of(guess, paper) == told for guess, told in rows])
    return fits and all([has_fact(paper, fact) for fact in facts])


def shows_parts(board, guesses, others, paper):
    """Tell whether the paper is a pair of words that the guesses mark alike and some other guess does not."""
    if not isinstance(paper, tuple) or len(paper) != 2:
        return False
    one, two = paper
    if not is_word(board, one) or not is_word(board, two):
        return False
    return are_alike(guesses, one, two) and not are_alike(others, one, two)


def are_alike(guesses, one, two):
    """Tell whether both words give each guess the same marks."""
    return all([marks_of(guess, one) == marks_of(guess, two) for guess in guesses])


def shows_impossible(board, rows, facts, paper):
    """Tell whether the paper is one of the four that show that no word fits all rows and has all facts."""
    if not isinstance(paper, tuple) or len(paper) != 2 or not isinstance(paper[0], str):
        return False
    kind, named = paper
    if kind == "row":
        return is_integer_within(named, 0, len(rows) - 1) and not is_in_order(rows[named][0], rows[named][1])
    bounds = Bounds(board, rows, facts)
    if kind == "letter":
        return is_letter(board, named) and bounds.least[named] > bounds.greatest[named]
    if kind == "letters":
        return are_letters(board, named) and too_many_letters(bounds, named)
    return kind == "places" and are_places(board, named) and too_few_letters(bounds, named)


def are_letters(board, value):
    """Tell whether the value is a string of letters of the board in ascending order, not empty."""
    if not isinstance(value, str) or value == "":
        return False
    return value == "".join([letter for letter in board.letters if letter in value])


def are_places(board, value):
    """Tell whether the value is a tuple of places of the board in ascending order, not empty."""
    if not isinstance(value, tuple) or len(value) == 0:
        return False
    if not all([is_integer_within(place, 0, board.length - 1) for place in value]):
        return False
    return list(value) == [place for place in range(board.length) if place in value]


def too_many_letters(bounds, letters):
    """Tell whether more copies of the letters are asked for than there are places that allow one of them."""
    places = [place for place, allowed in enumerate(bounds.allowed)
              if any([letter in allowed for letter in letters])]
    return sum([bounds.least[letter] for letter in letters]) > len(places)


def too_few_letters(bounds, places):
    """Tell whether the letters that are allowed at one or more of the places cannot fill all of them."""
    letters = [letter for letter in bounds.greatest
               if any([letter in bounds.allowed[place] for place in places])]
    return sum([bounds.greatest[letter] for letter in letters]) < len(places)
