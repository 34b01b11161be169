"""Boards: an alphabet, a length, and the words that they make."""

from guessmarks.checks import check_word, is_integer_within
from guessmarks.errors import InvalidLength, InvalidLetters, InvalidNumber, NotABoard
from guessmarks.limits import MOST_LENGTH, MOST_LETTERS

LOWERCASE = "abcdefghijklmnopqrstuvwxyz"


class Board:
    """An alphabet and the length of the words over it."""

    def __init__(self, letters, length):
        if not is_alphabet(letters):
            raise InvalidLetters(letters)
        if not is_integer_within(length, 1, MOST_LENGTH):
            raise InvalidLength(length)
        self.letters = letters
        self.length = length
        self.size = count_words(len(letters), length)

    def word(self, number):
        """Return the word with this number in the order of all words."""
        if not is_integer_within(number, 0, self.size - 1):
            raise InvalidNumber(number)
        text = ""
        rest = number
        while len(text) < self.length:
            rest, at = divmod(rest, len(self.letters))
            text = self.letters[at] + text
        return text

    def number(self, word):
        """Return the number of the word in the order of all words."""
        check_word(self, word)
        total = 0
        for letter in word:
            total = total * len(self.letters) + self.letters.index(letter)
        return total

    def __eq__(self, other):
        return isinstance(other, Board) and self.letters == other.letters and self.length == other.length

    def __str__(self):
        return f"{self.letters} {self.length}"

    def __repr__(self):
        return f"Board({self.letters} {self.length})"


def is_alphabet(letters):
    """Tell whether these are 2 to 26 different lowercase ASCII letters in ascending order."""
    if not isinstance(letters, str) or not 2 <= len(letters) <= MOST_LETTERS:
        return False
    return letters == "".join([letter for letter in LOWERCASE if letter in letters])


def count_words(many, length):
    """Return how many words of the length there are over this many letters."""
    total = 1
    for place in range(length):
        total *= many
    return total


def check_board(board):
    """Raise NotABoard unless this is a Board."""
    if not isinstance(board, Board):
        raise NotABoard(board)
