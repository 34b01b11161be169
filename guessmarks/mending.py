"""Which rows of a history are wrong, if no word is left."""

from guessmarks.errors import TooManyRows
from guessmarks.histories import check_history
from guessmarks.limits import MOST_MENDED
from guessmarks.words import has_word


def wrong_rows(history):
    """Return as few places of rows as possible without which a word is left, the least such tuple."""
    check_history(history)
    if len(history.rows) > MOST_MENDED:
        raise TooManyRows(MOST_MENDED)
    choices = [()]
    places = first_mending(history, choices)
    # This ends: without any row all words are left.
    while places is None:
        choices = longer_choices(choices, len(history.rows))
        places = first_mending(history, choices)
    return places


def first_mending(history, choices):
    """Return the first choice of places without whose rows a word is left, or None."""
    for places in choices:
        rows = tuple([row for place, row in enumerate(history.rows) if place not in places])
        if has_word(history.board, rows, ()):
            return places
    return None


def longer_choices(choices, many):
    """Return the choices with one more of the places behind their last one, in ascending order."""
    longer = []
    for places in choices:
        start = places[-1] + 1 if places else 0
        longer += [places + (place,) for place in range(start, many)]
    return longer
