"""A console: a game that is played by lines of text."""

from guessmarks.counting import count
from guessmarks.errors import InputError, InvalidLine, InvalidWord, SizeError, StateError
from guessmarks.games import Game
from guessmarks.guessing import worst_answer
from guessmarks.tables import table

# How many texts follow the first one in a line.
FORMS = {"add": 2, "drop": 1, "undo": 0, "count": 0, "letters": 0, "worst": 1, "show": 0}

REFUSED = "refused"


class Console:
    """Answers lines with a game that is not strict."""

    def __init__(self, board):
        self.game = Game(board)

    def say(self, line):
        """Return the answer to the line."""
        if not is_line(line):
            raise InvalidLine(line)
        texts = line.split(" ")
        if texts[0] in ("add", "drop", "undo"):
            return self.changed(texts)
        if texts[0] == "count":
            return str(count(self.game.history))
        if texts[0] == "letters":
            return " ".join(table(self.game.history)[0])
        if texts[0] == "worst":
            return self.worst(texts[1])
        return self.shown()

    def changed(self, texts):
        """Change the game and return the number of words that are left, or that the change is refused."""
        try:
            if texts[0] == "add":
                self.game.add(texts[1], texts[2])
            elif texts[0] == "drop":
                self.game.drop(int(texts[1]))
            else:
                self.game.undo()
        except (InputError, StateError, SizeError):
            return REFUSED
        return str(count(self.game.history))

    def worst(self, guess):
        """Return the worst answer of the guess, or that it is refused."""
        try:
            told, number = worst_answer(self.game.history, guess)
        except InvalidWord:
            return REFUSED
        return f"{told} {number}"

    def shown(self):
        """Return the rows of the game."""
        rows = self.game.history.rows
        return ", ".join([f"{guess} {told}" for guess, told in rows]) if rows else "empty"


def is_line(value):
    """Tell whether the value is a line that has one of the forms."""
    if not isinstance(value, str):
        return False
    texts = value.split(" ")
    if "" in texts or FORMS.get(texts[0]) != len(texts) - 1:
        return False
    return texts[0] != "drop" or is_count_text(texts[1])


def is_count_text(text):
    """Tell whether the text is a count in ASCII digits without leading zeros."""
    if not text.isascii() or not text.isdigit():
        return False
    return text == "0" or text[0] != "0"
