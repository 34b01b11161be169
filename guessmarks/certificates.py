"""Certificates: claims that are true, each with a paper that shows it."""

from guessmarks.bounds import Bounds
from guessmarks.checker import shows_impossible
from guessmarks.facts import check_facts
from guessmarks.histories import check_history
from guessmarks.lists import parting
from guessmarks.words import Words


def certify(history, *facts):
    """Return the claim that a word is left that has all facts, or that none is, and a paper for it."""
    check_history(history)
    check_facts(history.board, facts)
    board = history.board
    words = Words(board, history.rows, facts)
    parts = (board.letters, board.length, history.rows, facts)
    if words.many() > 0:
        return ("possible",) + parts, words.nth(0)
    return ("impossible",) + parts, impossible_paper(board, history.rows, facts)


def certify_parting(board, guesses, other_guesses):
    """Return the claim that the guesses do not tell the other guesses, and a paper, or None if they do."""
    pair = parting(board, guesses, other_guesses)
    if pair is None:
        return None
    return ("parts", board.letters, board.length, guesses, other_guesses), pair


def impossible_paper(board, rows, facts):
    """Return the first paper that shows that no word fits all rows and has all facts."""
    for paper in candidate_papers(board, rows, facts):
        if shows_impossible(board, rows, facts, paper):
            return paper
    return None


def candidate_papers(board, rows, facts):
    """Return papers of which at least one shows that no word does, if it is so."""
    papers = [("row", place) for place in range(len(rows))]
    papers += [("letter", letter) for letter in board.letters]
    bounds = Bounds(board, rows, facts)
    for places in sets_of_places(board.length):
        # If any letters are too many for their places, so are all letters that these places are enough for.
        papers.append(("letters", letters_bound_to(bounds, places)))
        papers.append(("places", places))
    return papers


def sets_of_places(length):
    """Return all tuples of different places in ascending order."""
    sets = [()]
    for place in range(length):
        sets = sets + [places + (place,) for places in sets]
    return sets


def letters_bound_to(bounds, places):
    """Return the letters that are asked for and are allowed at none but these places."""
    letters = ""
    for letter in bounds.least:
        allowed = [place for place, there in enumerate(bounds.allowed) if letter in there]
        if bounds.least[letter] > 0 and all([place in places for place in allowed]):
            letters += letter
    return letters
