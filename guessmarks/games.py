"""Games: rows that are added and dropped, and changes that can be taken back."""

from guessmarks.boards import check_board
from guessmarks.checks import check_marks, check_word
from guessmarks.errors import Busy, GuessNotLeft, InvalidDeeds, NotAGame, NothingToUndo
from guessmarks.histories import History, check_word_left


class Moment:
    """What a game was before a change: its rows, and the moment before the previous change, or None."""

    def __init__(self, history, past):
        self.history = history
        self.past = past


class Entrance:
    """What a game was when a block began, and the entrance of the block around it, or None."""

    def __init__(self, game, around):
        self.history = game.history
        self.past = game.past
        self.around = around


class Trial:
    """A context manager whose blocks give the game's rows and changes back at their end."""

    def __init__(self, game):
        self.game = game
        self.entrance = None

    def __enter__(self):
        self.entrance = Entrance(self.game, self.entrance)
        return self.game

    def __exit__(self, kind, value, trace):
        self.game.history = self.entrance.history
        self.game.past = self.entrance.past
        self.entrance = self.entrance.around


class Game:
    """Rows of a board that always leave a word, with the changes that made them."""

    def __init__(self, board, *, strict=False):
        check_board(board)
        self.board = board
        self.strict = strict
        self.history = History(board)
        self.busy = False
        self.past = None

    def add(self, guess, told):
        """Add a row at the end."""
        self.check_free()
        self.add_row(guess, told)

    def drop(self, place):
        """Remove a row."""
        self.check_free()
        self.drop_row(place)

    def change(self, *deeds, watch=None):
        """Carry out all the deeds, or none of them if one fails or `watch` raises an error."""
        self.check_free()
        check_deeds(deeds)
        history = self.history
        past = self.past
        finished = None
        self.busy = True
        try:
            for number, deed in enumerate(deeds):
                self.carry_out(deed)
                if watch is not None:
                    watch(self, number)
            finished = True
        finally:
            self.busy = False
            if finished is None:
                self.history = history
                self.past = past

    def undo(self):
        """Take back the last change that stands."""
        self.check_free()
        if self.past is None:
            raise NothingToUndo()
        before = self.past
        self.history = before.history
        self.past = before.past

    def trial(self):
        """Return a context manager at whose end the game is what it was at the start."""
        self.check_free()
        return Trial(self)

    def check_free(self):
        """Raise Busy during a change."""
        if self.busy:
            raise Busy()

    def carry_out(self, deed):
        """Carry out a deed, whose first string is known to be one."""
        if deed[0] == "add":
            self.add_row(deed[1], deed[2])
        else:
            self.drop_row(deed[1])

    def add_row(self, guess, told):
        """Add a row, also during a change."""
        check_word(self.board, guess)
        check_marks(self.board, told)
        if self.strict and not self.history.fits(guess):
            raise GuessNotLeft(guess)
        following = self.history.then(guess, told)
        check_word_left(following)
        self.move_to(following)

    def drop_row(self, place):
        """Remove a row, also during a change."""
        self.move_to(self.history.without(place))

    def move_to(self, history):
        """Take over the history by a change that can be taken back."""
        self.past = Moment(self.history, self.past)
        self.history = history

    def __len__(self):
        return len(self.history.rows)

    def __repr__(self):
        return f"Game({len(self.history.rows)} rows)"


def is_deed(value):
    """Tell whether the value is a tuple that begins like a deed and is as long as one."""
    if not isinstance(value, tuple) or len(value) == 0 or not isinstance(value[0], str):
        return False
    return (value[0] == "add" and len(value) == 3) or (value[0] == "drop" and len(value) == 2)


def check_deeds(deeds):
    """Raise InvalidDeeds unless all these are deeds."""
    for index, deed in enumerate(deeds):
        if not is_deed(deed):
            raise InvalidDeeds(index)


def within(trial, act):
    """Return the result of `act(game)` in a block of a context manager of the game."""
    with trial as game:
        return act(game)


def attempt(game, act):
    """Return the result of `act(game)` in a block at whose end the game is what it was."""
    if not isinstance(game, Game):
        raise NotAGame(game)
    return within(game.trial(), act)
