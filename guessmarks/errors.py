"""The errors of the package: refused arguments, unsuitable states, and sizes beyond a limit."""


class InputError(ValueError):
    """An argument was refused."""


class NotABoard(InputError):
    """The argument is not a Board."""

    def __init__(self, value):
        self.value = value


class NotAHistory(InputError):
    """The argument is not a History."""

    def __init__(self, value):
        self.value = value


class NotAGame(InputError):
    """The argument is not a Game."""

    def __init__(self, value):
        self.value = value


class InvalidLetters(InputError):
    """The argument is not an alphabet."""

    def __init__(self, value):
        self.value = value


class InvalidLength(InputError):
    """The argument is not a length of words."""

    def __init__(self, value):
        self.value = value


class InvalidWord(InputError):
    """The argument is not a word of the board."""

    def __init__(self, value):
        self.value = value


class InvalidMarks(InputError):
    """The argument is not a string of marks of the board."""

    def __init__(self, value):
        self.value = value


class InvalidFact(InputError):
    """The argument is not a fact of the board."""

    def __init__(self, value):
        self.value = value


class InvalidNumber(InputError):
    """The argument is not the number of a word."""

    def __init__(self, value):
        self.value = value


class InvalidPlace(InputError):
    """The argument is not the place of a row."""

    def __init__(self, value):
        self.value = value


class InvalidLine(InputError):
    """The argument is not a line that a console answers."""

    def __init__(self, value):
        self.value = value


class InvalidRows(InputError):
    """There are too many rows, or the argument at the index is not a row."""

    def __init__(self, index):
        self.index = index


class InvalidFacts(InputError):
    """There are too many facts, or the argument at the index is not a fact."""

    def __init__(self, index):
        self.index = index


class InvalidGuesses(InputError):
    """This is no tuple of guesses, or the one at the index is not a word."""

    def __init__(self, index):
        self.index = index


class InvalidDeeds(InputError):
    """The argument at the index is not a deed."""

    def __init__(self, index):
        self.index = index


class StateError(LookupError):
    """The state of things does not allow the call."""


class Mismatch(StateError):
    """Two histories have different boards."""


class NoWord(StateError):
    """No word is left, or none would be."""


class NothingToUndo(StateError):
    """No change of the game stands."""


class Busy(StateError):
    """The game is being changed."""


class WordNotLeft(StateError):
    """The word does not fit all rows."""

    def __init__(self, value):
        self.value = value


class GuessNotLeft(StateError):
    """The guess of a strict game does not fit all rows."""

    def __init__(self, value):
        self.value = value


class SizeError(ArithmeticError):
    """Something is larger than a limit."""


class TooManyRows(SizeError):
    """There are more rows than the limit."""

    def __init__(self, limit):
        self.limit = limit
