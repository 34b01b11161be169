"""The limits of boards, histories, lists of guesses and facts."""

MOST_LENGTH = 6
MOST_LETTERS = 26
MOST_ROWS = 20
MOST_GUESSES = 20
MOST_FACTS = 4
MOST_MENDED = 10
