"""Class Game, within and attempt (points [2] to [5], [8]; interface, guessmarks/games.py)."""

import unittest
from random import Random

from guessmarks import games
from guessmarks.boards import Board
from guessmarks.errors import (Busy, GuessNotLeft, InvalidDeeds, InvalidMarks, InvalidPlace, InvalidWord, NotABoard,
                               NotAGame, NothingToUndo, NoWord, TooManyRows)
from guessmarks.games import Game, attempt, within
from guessmarks.histories import History
from guessmarks.tables import is_possible
from tests.support import (ALPHABET, Agreeing, Plain, Raising, marks_by_definition, nested, no_histories, no_words,
                           refused, refuses_value, strange_objects)

BOARD = Board("abc", 3)
LARGEST = Board(ALPHABET, 6)

# All of them fit the word aca.
ROWS = (("aab", "210"), ("cca", "022"), ("bab", "010"), ("aca", "222"), ("ccc", "020"))

NO_MARKS = ["", "0", "01", "0121", "013", "abc", "01 ", "012\n", "\u0660\u0661\u0662", 0, 12, 222, -1, b"012",
            ("0", "1", "2"), ["0", "1", "2"], (0, 1, 2), ("abc", "012"), Agreeing(), Raising(),
            nested(15)] + strange_objects()

NO_PLACES = [-1, -2, 20, 100, 10 ** 19, -(10 ** 19), "", "0", "abc", b"0", (0,), [0], ("abc", "012"), Agreeing(),
             Raising(), nested(15)] + strange_objects()

NO_DEEDS = [[], ["add", "abc", "222"], ["drop", 0], "", "add", "drop", "undo", "add abc 222", 0, 1, b"add", (),
            ("add",), ("drop",), ("add", "abc"), ("add", "abc", "222", None), ("add", "abc", "222", "222"),
            ("drop", 0, 0), ("drop", 0, None), ("undo",), ("undo", 0), ("undo", 0, 0), ("change", "abc", "222"),
            ("Add", "abc", "222"), ("ADD", "abc", "222"), ("add ", "abc", "222"), (" add", "abc", "222"),
            ("Drop", 0), ("drop ", 0), ("drops", 0), ("", 0), ("", "abc", "222"), ("abc", "222"), (0, "drop"),
            ("abc", "add", "222"), (b"add", "abc", "222"), (b"drop", 0), (None, 0), (None, "abc", "222"),
            (True, 0), (("add",), "abc", "222"), (["drop"], 0), ({"drop": 1}, 0), (("drop", 0),),
            (("add", "abc", "222"),), [("drop", 0)], {"drop": 0}, {"add": ("abc", "222")}, (Agreeing(), 0),
            (Agreeing(), "abc", "222"), (Raising(), 0), (Raising(), "abc", "222"), Agreeing(), Raising(),
            BOARD, History(BOARD), nested(15)] + strange_objects()

# What is neither a word nor marks nor a place.
PARTS = [None, True, False, -1, 20, "", "abd", "0", (), ("abc",), ["abc"], {}, b"abc", Agreeing(), Raising(), Plain(),
         nested(14)]


class Stop(Exception):
    """An error of the caller's own."""


def game_with(*rows, board=BOARD, strict=False):
    """Return a game to which these rows have been added."""
    game = Game(board, strict=strict)
    for guess, told in rows:
        game.add(guess, told)
    return game


def seen(game):
    """Return all that can be seen of the game at once."""
    return (game.board, game.strict, game.history, game.history.rows, game.busy, len(game), repr(game), bool(game))


def taken_back(game):
    """Take back all changes and return the rows on the way."""
    passed = [game.history.rows]
    while True:
        try:
            game.undo()
        except NothingToUndo:
            return passed
        passed.append(game.history.rows)


def states(game):
    """Return all that can be seen of the game now and when its changes are taken back."""
    def look(inner):
        return seen(inner), taken_back(inner)
    return attempt(game, look)


class CreationTest(unittest.TestCase):
    def test_a_new_game(self):
        for board in (BOARD, LARGEST, Board("ab", 1)):
            for strict in (True, False):
                game = Game(board, strict=strict)
                self.assertEqual([game.board, game.history, game.history.rows], [board, History(board), ()])
                self.assertIs(game.strict, strict)
                self.assertIs(game.busy, False)
                self.assertEqual([len(game), repr(game), bool(game)], [0, "Game(0 rows)", False])
                self.assertIs(type(game.history), History)

    def test_a_game_is_not_strict_unless_it_is_told_to_be(self):
        self.assertIs(Game(BOARD).strict, False)

    def test_arguments_by_name(self):
        for game in (Game(board=BOARD, strict=True), Game(strict=True, board=BOARD)):
            self.assertEqual([game.board, game.strict], [BOARD, True])
        with self.assertRaises(TypeError):
            Game(BOARD, True)

    def test_what_is_no_board(self):
        for board in [board for board in no_histories(BOARD) if not isinstance(board, Board)] + [Game(BOARD)]:
            for strict in (True, False):
                refuses_value(self, NotABoard, board, Game, board, strict=strict)
            refuses_value(self, NotABoard, board, Game, board)
            refuses_value(self, NotABoard, board, Game, board=board)

    def test_a_game_is_equal_to_itself_alone(self):
        game, other = Game(BOARD), Game(BOARD)
        self.assertTrue(game == game)
        self.assertFalse(game != game)
        for thing in (other, BOARD, History(BOARD), game.history, "Game(0 rows)", 0, None, False, ()):
            self.assertFalse(game == thing)
            self.assertTrue(game != thing)
            self.assertFalse(thing == game)

    def test_length_text_and_truth(self):
        game = Game(BOARD)
        for many, (guess, told) in enumerate(ROWS * 4, start=1):
            game.add(guess, told)
            self.assertEqual([len(game), repr(game), bool(game)], [many, f"Game({many} rows)", True])
        game = game_with(ROWS[0])
        game.drop(0)
        self.assertEqual([len(game), repr(game), bool(game)], [0, "Game(0 rows)", False])


class AddTest(unittest.TestCase):
    def test_rows_come_at_the_end(self):
        game = Game(BOARD)
        for many, (guess, told) in enumerate(ROWS, start=1):
            self.assertIsNone(game.add(guess, told))
            self.assertEqual(game.history, History(BOARD, *ROWS[:many]))
            self.assertEqual(game.history.rows, ROWS[:many])

    def test_arguments_by_name(self):
        game = Game(BOARD)
        game.add(guess="aab", told="210")
        game.add(told="022", guess="cca")
        self.assertEqual(game.history.rows, ROWS[:2])
        refuses_value(self, InvalidMarks, None, game.add, told=None, guess="abc")

    def test_what_is_no_word(self):
        for game in (Game(BOARD), Game(BOARD, strict=True), game_with(*ROWS), game_with(*(ROWS * 4))):
            before = states(game)
            for guess in no_words(3):
                for told in ("000", "0000", None, "013"):
                    refuses_value(self, InvalidWord, guess, game.add, guess, told)
            self.assertEqual(states(game), before)

    def test_what_are_no_marks(self):
        for game in (Game(BOARD), Game(BOARD, strict=True), game_with(*ROWS), game_with(*(ROWS * 4))):
            before = states(game)
            for told in NO_MARKS:
                for guess in ("abc", "aca"):
                    refuses_value(self, InvalidMarks, told, game.add, guess, told)
            self.assertEqual(states(game), before)

    def test_twenty_rows(self):
        for strict in (True, False):
            game = Game(BOARD, strict=strict)
            for number in range(20):
                game.add("aca", "222")
            before = states(game)
            self.assertEqual(len(game), 20)
            for guess, told in [("aca", "222"), ("aca", "000")]:
                error = refused(self, TooManyRows, game.add, guess, told)
                self.assertEqual([error.limit, type(error.limit)], [20, int])
            self.assertEqual(states(game), before)
            game.drop(7)
            game.add("aca", "222")
            refused(self, TooManyRows, game.add, "aca", "222")

    def test_a_row_that_leaves_no_word(self):
        for rows, row in [((), ("abc", "221")), ((), ("aab", "010")), (ROWS[:1], ("abc", "222")),
                          (ROWS, ("aca", "000")), (ROWS[:4], ("bbb", "200"))]:
            game = game_with(*rows)
            before = states(game)
            refused(self, NoWord, game.add, *row)
            self.assertEqual(states(game), before)

    def test_the_only_word_that_is_left(self):
        game = game_with(("abcdef", "222222"), board=LARGEST)
        refused(self, NoWord, game.add, "abcdef", "222220")
        game.add("fedcba", "111111")
        self.assertEqual(len(game), 2)

    def test_guesses_of_a_strict_game(self):
        game = Game(BOARD, strict=True)
        game.add("aab", "210")
        before = states(game)
        for guess in ("aab", "bbb", "abc", "caa", "acc"):
            refuses_value(self, GuessNotLeft, guess, game.add, guess, "222")
            refuses_value(self, GuessNotLeft, guess, game.add, guess, "000")
        self.assertEqual(states(game), before)
        game.add("aca", "222")
        self.assertEqual(game.history.rows, (("aab", "210"), ("aca", "222")))
        game.undo()
        refuses_value(self, GuessNotLeft, "acc", game.add, "acc", "220")
        game.drop(0)
        game.add("acc", "220")
        self.assertEqual(game.history.rows, (("acc", "220"),))
        game.drop(0)
        game.undo()
        refuses_value(self, GuessNotLeft, "aab", game.add, "aab", "210")

    def test_a_strict_game_takes_any_first_guess(self):
        for number in range(BOARD.size):
            guess = BOARD.word(number)
            game = Game(BOARD, strict=True)
            game.add(guess, marks_by_definition(guess, "cab"))
            self.assertEqual(len(game), 1)

    def test_strict_games_against_the_definition(self):
        for hidden in ("abc", "aab", "ccc", "cab"):
            for strict in (True, False):
                game = Game(BOARD, strict=strict)
                for number in (5, 0, 13, 26, 11, 20, 8):
                    guess = BOARD.word(number)
                    told = marks_by_definition(guess, hidden)
                    if strict and not game.history.fits(guess):
                        refuses_value(self, GuessNotLeft, guess, game.add, guess, told)
                    else:
                        game.add(guess, told)
                        self.assertEqual(game.history.rows[-1], (guess, told))

    def test_the_order_of_the_errors(self):
        strict = Game(BOARD, strict=True)
        for _ in range(20):
            strict.add("aca", "222")
        refuses_value(self, InvalidWord, "abd", strict.add, "abd", "9")
        refuses_value(self, InvalidMarks, "9", strict.add, "bbb", "9")
        refuses_value(self, GuessNotLeft, "bbb", strict.add, "bbb", "222")
        refused(self, TooManyRows, strict.add, "aca", "000")
        strict.drop(19)
        refuses_value(self, GuessNotLeft, "bbb", strict.add, "bbb", "222")
        refused(self, NoWord, strict.add, "aca", "000")
        loose = game_with(*(ROWS * 4))
        refuses_value(self, InvalidWord, None, loose.add, None, None)
        refuses_value(self, InvalidMarks, None, loose.add, "bbb", None)
        refused(self, TooManyRows, loose.add, "bbb", "222")
        loose.drop(0)
        refused(self, NoWord, loose.add, "bbb", "222")


class DropTest(unittest.TestCase):
    def test_each_place(self):
        for many in range(1, 6):
            for place in range(many):
                game = game_with(*ROWS[:many])
                self.assertIsNone(game.drop(place))
                self.assertEqual(game.history.rows, ROWS[:place] + ROWS[place + 1:many])
                self.assertEqual(len(game), many - 1)
                game.undo()
                self.assertEqual(game.history.rows, ROWS[:many])

    def test_each_place_of_twenty_rows(self):
        rows = ROWS * 4
        for place in range(20):
            game = game_with(*rows)
            game.drop(place=place)
            self.assertEqual(game.history.rows, rows[:place] + rows[place + 1:])

    def test_what_is_no_place(self):
        for many in (0, 1, 3, 5):
            game = game_with(*ROWS[:many])
            before = states(game)
            for place in NO_PLACES + [many, many + 1, -many - 1]:
                refuses_value(self, InvalidPlace, place, game.drop, place)
                refuses_value(self, InvalidPlace, place, game.drop, place=place)
            self.assertEqual(states(game), before)


class UndoTest(unittest.TestCase):
    def test_nothing_to_undo(self):
        for game in (Game(BOARD), Game(LARGEST, strict=True)):
            for _ in range(3):
                before = seen(game)
                refused(self, NothingToUndo, game.undo)
                self.assertEqual(seen(game), before)

    def test_rows_and_drops(self):
        game = game_with(*ROWS)
        passed = [ROWS[:many] for many in range(5)] + [ROWS]
        for place in (2, 0, 1, 1, 0):
            game.drop(place)
            rows = passed[-1]
            passed.append(rows[:place] + rows[place + 1:])
        self.assertEqual(taken_back(game), passed[::-1])
        refused(self, NothingToUndo, game.undo)

    def test_undo_returns_none(self):
        self.assertIsNone(game_with(ROWS[0]).undo())

    def test_new_deeds_behind_an_undo(self):
        game = game_with(*ROWS[:3])
        game.undo()
        game.undo()
        game.add(*ROWS[4])
        game.drop(0)
        self.assertEqual(taken_back(game), [(ROWS[4],), (ROWS[0], ROWS[4]), (ROWS[0],), ()])

    def test_calls_that_fail_are_no_changes(self):
        game = game_with(ROWS[0])
        refused(self, NoWord, game.add, "aca", "000")
        refuses_value(self, InvalidPlace, 1, game.drop, 1)
        refused(self, InvalidDeeds, game.change, ("drop", 0), None)
        self.assertEqual(taken_back(game), [ROWS[:1], ()])

    def test_many_changes(self):
        game = Game(BOARD)
        for _ in range(2000):
            game.add("aab", "210")
            game.drop(0)
        for _ in range(2000):
            game.undo()
            self.assertEqual(len(game), 1)
            game.undo()
        refused(self, NothingToUndo, game.undo)


class ChangeTest(unittest.TestCase):
    def test_no_deed_one_and_several(self):
        for many in range(6):
            game = Game(BOARD)
            self.assertIsNone(game.change(*[("add", guess, told) for guess, told in ROWS[:many]]))
            self.assertEqual(game.history.rows, ROWS[:many])
            self.assertEqual(taken_back(game), [ROWS[:left] for left in range(many, -1, -1)])

    def test_deeds_of_both_kinds(self):
        game = game_with(*ROWS[:2])
        game.change(("drop", 0), ("add", *ROWS[2]), ("drop", 1), ("add", *ROWS[3]), ("add", *ROWS[4]), ("drop", 1))
        passed = [(ROWS[1],), (ROWS[1], ROWS[2]), (ROWS[1],), (ROWS[1], ROWS[3]), (ROWS[1], ROWS[3], ROWS[4]),
                  (ROWS[1], ROWS[4])]
        self.assertEqual(taken_back(game), passed[::-1] + [ROWS[:2], ROWS[:1], ()])

    def test_the_deeds_are_taken_back_one_at_a_time(self):
        game = game_with(ROWS[0])
        game.change(("add", *ROWS[1]), ("add", *ROWS[2]))
        game.undo()
        self.assertEqual(game.history.rows, ROWS[:2])
        game.add(*ROWS[3])
        self.assertEqual(taken_back(game), [ROWS[:2] + (ROWS[3],), ROWS[:2], ROWS[:1], ()])

    def test_a_deed_that_fails(self):
        good = [("add", *ROWS[2]), ("drop", 0), ("add", *ROWS[3])]
        for wrong, kind, value in [(("add", "abd", "000"), InvalidWord, "abd"),
                                   (("add", None, None), InvalidWord, None), (("add", "abc", "9"), InvalidMarks, "9"),
                                   (("drop", 9), InvalidPlace, 9), (("drop", True), InvalidPlace, True),
                                   (("drop", "0"), InvalidPlace, "0")]:
            for at in range(4):
                game = game_with(*ROWS[:2])
                before = states(game)
                refuses_value(self, kind, value, game.change, *good[:at], wrong, *good[at:])
                refuses_value(self, kind, value, game.change, *good[:at], wrong, ("drop", None), ("add", None, None))
                self.assertEqual(states(game), before)
                self.assertIs(game.busy, False)

    def test_deeds_that_fail_without_a_value(self):
        for at in range(4):
            game = game_with(*ROWS[:2])
            before = states(game)
            deeds = [("add", *ROWS[2]), ("drop", 0), ("add", *ROWS[3])]
            deeds.insert(at, ("add", "aca", "000"))
            refused(self, NoWord, game.change, *deeds)
            self.assertEqual(states(game), before)
        game = game_with(*ROWS[:2])
        before = states(game)
        error = refused(self, TooManyRows, game.change, *([("add", "aca", "222")] * 19))
        self.assertEqual(error.limit, 20)
        self.assertEqual(states(game), before)
        game.change(*([("add", "aca", "222")] * 18))
        self.assertEqual(len(game), 20)

    def test_deeds_of_a_strict_game(self):
        game = Game(BOARD, strict=True)
        refuses_value(self, GuessNotLeft, "bbb", game.change, ("add", "aab", "210"), ("add", "bbb", "000"))
        self.assertEqual(states(game)[1], [()])
        game.change(("add", "aab", "210"), ("drop", 0), ("add", "bbb", "000"))
        self.assertEqual(game.history.rows, (("bbb", "000"),))

    def test_a_row_that_only_fits_between(self):
        game = game_with(("aab", "210"))
        refused(self, NoWord, game.change, ("add", "bbb", "222"), ("drop", 0))
        game.change(("drop", 0), ("add", "bbb", "222"))
        self.assertEqual(game.history.rows, (("bbb", "222"),))

    def test_what_the_parts_of_a_deed_may_be(self):
        for part in PARTS:
            for deed, kind in [(("add", part, "000"), InvalidWord), (("add", part, part), InvalidWord),
                               (("add", "cca", part), InvalidMarks), (("drop", part), InvalidPlace)]:
                game = game_with(ROWS[0])
                before = states(game)
                numbers = []
                refuses_value(self, kind, part, game.change, ("add", *ROWS[1]), deed, ("drop", 0),
                              watch=lambda inner, number: numbers.append(number))
                self.assertEqual(numbers, [0])
                self.assertEqual(states(game), before)

    def test_what_is_no_deed(self):
        calls = []
        good = ("add", *ROWS[1])
        wrong_parts = [("add", None, None), ("drop", -1), ("add", "aca", "000")]
        game = game_with(ROWS[0])
        before = states(game)
        for deed in NO_DEEDS:
            for front in ([], [good], [good, ("drop", 0), good], wrong_parts, [("drop", None)]):
                for behind in ([], [good], [None], [good, [], None]):
                    error = refused(self, InvalidDeeds, game.change, *front, deed, *behind,
                                    watch=lambda inner, number: calls.append(number))
                    self.assertEqual([error.index, type(error.index)], [len(front), int])
        self.assertEqual(calls, [])
        self.assertEqual(states(game), before)

    def test_many_deeds(self):
        game = Game(BOARD)
        game.change(*[("add", "aab", "210"), ("drop", 0)] * 100)
        self.assertEqual([len(game), len(taken_back(game))], [0, 201])
        refused(self, InvalidDeeds, game.change, *[("add", "aab", "210"), ("drop", 0)] * 50, None)
        self.assertEqual(len(game), 0)


class WatchTest(unittest.TestCase):
    def test_watch_sees_each_deed(self):
        game = game_with(ROWS[0])
        told = []

        def watch(*args):
            self.assertIs(args[0], game)
            told.append((args[1:], game.history.rows, len(game), game.busy))

        self.assertIsNone(game.change(("add", *ROWS[1]), ("drop", 0), ("add", *ROWS[2]), watch=watch))
        self.assertEqual(told, [((0,), ROWS[:2], 2, True), ((1,), ROWS[1:2], 1, True), ((2,), ROWS[1:3], 2, True)])
        self.assertIs(type(told[0][0][0]), int)
        self.assertIs(game.busy, False)

    def test_watch_is_not_called_without_deeds(self):
        game = Game(BOARD)
        game.change(watch=lambda inner, number: self.fail("called"))
        game.change(watch=None)
        self.assertEqual(len(game), 0)

    def test_watch_is_called_directly_after_each_deed(self):
        numbers = []
        game = Game(BOARD)
        refuses_value(self, InvalidPlace, 5, game.change, ("add", *ROWS[0]), ("add", *ROWS[1]), ("drop", 5),
                      ("drop", 0), watch=lambda inner, number: numbers.append(number))
        self.assertEqual(numbers, [0, 1])
        self.assertEqual(game.history.rows, ())

    def test_what_watch_returns_makes_no_difference(self):
        for result in (None, False, True, 0, (), InvalidWord("abc"), Raising()):
            game = Game(BOARD)
            self.assertIsNone(game.change(("add", *ROWS[0]), ("add", *ROWS[1]), watch=lambda inner, number: result))
            self.assertEqual(game.history.rows, ROWS[:2])

    def test_watch_raises_an_error(self):
        for error in (Stop("stop"), ValueError("value"), KeyError(1), StopIteration(), RuntimeError(), NoWord(),
                      InvalidWord("abc"), TooManyRows(20), Busy(), KeyboardInterrupt(), GeneratorExit()):
            for at in range(3):
                game = game_with(*ROWS[:2])
                before = states(game)

                def watch(inner, number):
                    if number == at:
                        raise error

                with self.assertRaises(type(error)) as caught:
                    game.change(("drop", 0), ("add", *ROWS[2]), ("add", *ROWS[3]), watch=watch)
                self.assertIs(caught.exception, error)
                self.assertIs(game.busy, False)
                self.assertEqual(states(game), before)
                game.change(("drop", 0), ("add", *ROWS[2]))
                self.assertEqual(game.history.rows, ROWS[1:3])

    def test_busy_ahead_of_every_other_error(self):
        game = game_with(ROWS[0], strict=True)
        other = Game(BOARD)
        found = []

        def watch(inner, number):
            for call in (lambda: game.add("aca", "222"), lambda: game.add(None, None), lambda: game.drop(0),
                         lambda: game.drop(None), lambda: game.change(), lambda: game.change(("drop", 0)),
                         lambda: game.change(None), lambda: game.change(None, watch=len), game.undo, game.trial,
                         lambda: attempt(game, len), lambda: attempt(game, None)):
                refused(self, Busy, call)
                found.append(seen(game))
            other.add("aab", "210")
            self.assertEqual(attempt(other, len), number + 1)
            refuses_value(self, NotAGame, None, attempt, None, len)

        game.change(("drop", 0), ("add", "bbb", "000"), watch=watch)
        self.assertEqual(len(found), 24)
        self.assertEqual({told[3] for told in found}, {(), (("bbb", "000"),)})
        self.assertEqual({told[4] for told in found}, {True})
        self.assertEqual(game.history.rows, (("bbb", "000"),))
        self.assertEqual(len(other), 2)
        self.assertIs(game.busy, False)

    def test_busy_comes_out_if_watch_lets_it(self):
        for call in (lambda game: game.add("aca", "222"), lambda game: game.drop(0), lambda game: game.change(),
                     lambda game: game.undo(), lambda game: game.trial(), lambda game: attempt(game, len)):
            game = game_with(*ROWS[:2])
            before = states(game)
            refused(self, Busy, game.change, ("drop", 0), ("drop", 0), watch=lambda inner, number: call(inner))
            self.assertEqual(states(game), before)

    def test_everything_else_can_be_used_during_a_change(self):
        game = Game(BOARD)

        def watch(inner, number):
            self.assertEqual([inner.board, inner.strict, inner.history.board], [BOARD, False, BOARD])
            self.assertEqual([repr(inner), len(inner)], [f"Game({number + 1} rows)", number + 1])
            self.assertTrue(inner == game)
            self.assertIs(is_possible(inner.history), True)

        game.change(("add", *ROWS[0]), ("add", *ROWS[1]), watch=watch)

    def test_two_games_change_within_each_other(self):
        game, other = Game(BOARD), Game(BOARD)

        def inner_watch(inner, number):
            self.assertIs(inner, other)
            self.assertEqual([game.busy, other.busy], [True, True])

        def watch(inner, number):
            other.change(("add", *ROWS[number]), watch=inner_watch)
            self.assertEqual([game.busy, other.busy], [True, False])

        game.change(("add", *ROWS[3]), ("add", *ROWS[4]), watch=watch)
        self.assertEqual([game.history.rows, other.history.rows], [ROWS[3:], ROWS[:2]])

    def test_an_empty_change_takes_nothing_back(self):
        game = game_with(*ROWS[:2])
        game.change()
        game.change(watch=len)
        game.undo()
        self.assertEqual(game.history.rows, ROWS[:1])


class TrialTest(unittest.TestCase):
    def test_a_block_that_ends_well(self):
        game = game_with(*ROWS[:2])
        before = states(game)
        with game.trial() as inner:
            self.assertIs(inner, game)
            inner.add(*ROWS[2])
            inner.drop(0)
            self.assertEqual(game.history.rows, ROWS[1:3])
        self.assertEqual(states(game), before)

    def test_a_block_that_ends_by_an_error(self):
        for error in (Stop("stop"), ValueError(), NoWord(), KeyboardInterrupt(), StopIteration()):
            game = game_with(*ROWS[:2])
            before = states(game)
            with self.assertRaises(type(error)) as caught:
                with game.trial():
                    game.change(("drop", 1), ("drop", 0))
                    raise error
            self.assertIs(caught.exception, error)
            self.assertEqual(states(game), before)

    def test_changes_can_be_taken_back_within_the_block_and_behind_it(self):
        game = game_with(*ROWS[:3])
        with game.trial():
            game.undo()
            game.undo()
            game.undo()
            refused(self, NothingToUndo, game.undo)
            game.add(*ROWS[4])
        self.assertEqual(taken_back(game), [ROWS[:3], ROWS[:2], ROWS[:1], ()])

    def test_the_same_context_manager_several_times(self):
        game = game_with(ROWS[0])
        trial = game.trial()
        for many in range(2, 5):
            with trial as inner:
                self.assertIs(inner, game)
                game.drop(0)
                self.assertEqual(len(game), many - 2)
            self.assertEqual(game.history.rows, ROWS[:many - 1])
            game.add(*ROWS[many - 1])
        self.assertEqual(taken_back(game), [ROWS[:4], ROWS[:3], ROWS[:2], ROWS[:1], ()])

    def test_the_start_of_the_block_counts(self):
        game = Game(BOARD)
        trial = game.trial()
        game.add(*ROWS[0])
        with trial:
            game.add(*ROWS[1])
        self.assertEqual(taken_back(game), [ROWS[:1], ()])

    def test_within_its_own_block(self):
        game = game_with(ROWS[0])
        trial = game.trial()
        with trial:
            game.add(*ROWS[1])
            inside = states(game)
            with trial as inner:
                self.assertIs(inner, game)
                game.add(*ROWS[2])
                with trial:
                    game.change(("drop", 0), ("drop", 0), ("drop", 0))
                self.assertEqual(game.history.rows, ROWS[:3])
            self.assertEqual(states(game), inside)
            with game.trial():
                game.undo()
            self.assertEqual(states(game), inside)
        self.assertEqual(taken_back(game), [ROWS[:1], ()])

    def test_during_a_change(self):
        game = game_with(ROWS[0])
        trial = game.trial()
        told = []

        def watch(inner, number):
            with trial as held:
                self.assertIs(held, game)
                self.assertIs(game.busy, True)
                refused(self, Busy, game.add, *ROWS[3])
            self.assertEqual(within(trial, len), number + 2)
            told.append((game.history.rows, game.busy))

        game.change(("add", *ROWS[1]), ("add", *ROWS[2]), watch=watch)
        self.assertEqual(told, [(ROWS[:2], True), (ROWS[:3], True)])
        self.assertIs(game.busy, False)
        self.assertEqual(taken_back(game), [ROWS[:3], ROWS[:2], ROWS[:1], ()])

    def test_a_block_that_began_before_a_change_ends_during_it(self):
        for fails in (False, True):
            game = game_with(ROWS[0])
            trial = game.trial()
            trial.__enter__()
            game.add(*ROWS[1])
            before = states(game)

            def watch(inner, number):
                if number == 0:
                    trial.__exit__(None, None, None)
                    self.assertEqual([game.history.rows, game.busy], [ROWS[:1], True])
                    refused(self, Busy, game.undo)

            deeds = [("add", *ROWS[2]), ("add", *ROWS[3])] + [("drop", 5)] * fails
            if fails:
                refuses_value(self, InvalidPlace, 5, game.change, *deeds, watch=watch)
                self.assertEqual(states(game), before)
            else:
                game.change(*deeds, watch=watch)
                self.assertEqual(taken_back(game), [(ROWS[0], ROWS[3]), ROWS[:1], ()])
            self.assertIs(game.busy, False)

    def test_a_block_that_began_during_a_change_ends_behind_it(self):
        game = game_with(ROWS[0])
        trial = game.trial()
        game.change(("add", *ROWS[1]), ("add", *ROWS[2]),
                    watch=lambda inner, number: trial.__enter__() if number == 0 else None)
        self.assertEqual(game.history.rows, ROWS[:3])
        trial.__exit__(None, None, None)
        self.assertIs(game.busy, False)
        self.assertEqual(taken_back(game), [ROWS[:2], ROWS[:1], ()])

    def test_a_change_within_a_block(self):
        game = game_with(ROWS[0])
        before = states(game)
        with game.trial():
            with self.assertRaises(Stop):
                game.change(("drop", 0), watch=stop)
            self.assertEqual(states(game), before)
            game.change(("drop", 0), ("add", *ROWS[4]))
        self.assertEqual(states(game), before)

    def test_another_game_is_not_touched(self):
        game, other = game_with(*ROWS[:2]), game_with(*ROWS[2:4])
        with game.trial():
            other.drop(0)
            game.drop(0)
        self.assertEqual([game.history.rows, other.history.rows], [ROWS[:2], ROWS[3:4]])
        with other.trial(), game.trial():
            other.undo()
            game.undo()
            self.assertEqual([game.history.rows, other.history.rows], [ROWS[:1], ROWS[2:4]])
        self.assertEqual([game.history.rows, other.history.rows], [ROWS[:2], ROWS[3:4]])

    def test_the_call_of_trial_alone_changes_nothing(self):
        game = game_with(*ROWS[:2])
        before = states(game)
        game.trial()
        game.trial()
        self.assertEqual(states(game), before)


def stop(game, number):
    """Watch a change and stop it."""
    raise Stop


class WithinAndAttemptTest(unittest.TestCase):
    def test_the_result_of_the_function(self):
        game = game_with(*ROWS[:2])
        trial = game.trial()
        for result in (None, 0, False, "abc", [1], Plain(), game, Raising()):
            self.assertIs(attempt(game, lambda inner: result), result)
            self.assertIs(within(trial, lambda inner: result), result)
        self.assertEqual([attempt(game, len), within(trial, len)], [2, 2])

    def test_the_function_gets_the_game(self):
        game = game_with(ROWS[0])
        for call in (lambda act: attempt(game, act), lambda act: within(game.trial(), act)):
            self.assertIs(call(lambda *args: args[0] if len(args) == 1 else None), game)

    def test_the_game_is_what_it_was(self):
        def act(inner):
            inner.undo()
            inner.change(("add", *ROWS[3]), ("add", *ROWS[4]))
            inner.drop(0)
            return inner.history.rows

        game = game_with(*ROWS[:2])
        before = states(game)
        self.assertEqual(attempt(game, act), ROWS[3:])
        self.assertEqual(states(game), before)
        trial = game.trial()
        game.add(*ROWS[2])
        before = states(game)
        self.assertEqual(within(trial, act), (ROWS[1], ROWS[3], ROWS[4]))
        self.assertEqual(states(game), before)

    def test_an_error_of_the_function_comes_out(self):
        for error in (Stop("stop"), ValueError(), NoWord(), InvalidWord("abc"), KeyboardInterrupt()):
            def act(inner):
                inner.drop(0)
                raise error

            game = game_with(*ROWS[:2])
            before = states(game)
            for call in (lambda: attempt(game, act), lambda: within(game.trial(), act)):
                with self.assertRaises(type(error)) as caught:
                    call()
                self.assertIs(caught.exception, error)
                self.assertEqual(states(game), before)

    def test_attempts_within_each_other(self):
        game = game_with(ROWS[0])

        def outer(inner):
            inner.add(*ROWS[1])
            return attempt(inner, middle), inner.history.rows

        def middle(inner):
            inner.change(("add", *ROWS[2]), ("drop", 0))
            return attempt(inner, taken_back), inner.history.rows

        self.assertEqual(attempt(game, outer),
                         (([ROWS[1:3], ROWS[:3], ROWS[:2], ROWS[:1], ()], ROWS[1:3]), ROWS[:2]))
        self.assertEqual(game.history.rows, ROWS[:1])

    def test_arguments_by_name(self):
        game = game_with(ROWS[0])
        self.assertEqual(attempt(act=len, game=game), 1)
        self.assertEqual(within(act=len, trial=game.trial()), 1)

    def test_what_is_no_game(self):
        things = no_histories(BOARD) + [History(BOARD), Game, game_with().trial(), "Game(0 rows)", game_with]
        for thing in things:
            refuses_value(self, NotAGame, thing, attempt, thing, len)
            refuses_value(self, NotAGame, thing, attempt, act=None, game=thing)


class AssuranceTest(unittest.TestCase):
    def test_games_against_a_list_of_changes(self):
        # The model keeps the rows before each change that stands.
        choose = Random(71)
        for board, hidden in [(BOARD, "aca"), (Board("abcd", 2), "da"), (LARGEST, "letter")]:
            game, rows, past = Game(board), (), []
            for _ in range(400):
                kind = choose.choice(["add", "add", "drop", "undo", "change", "failing change", "attempt"])
                guess = "".join(choose.choices(hidden + "abc", k=board.length))
                row = (guess, marks_by_definition(guess, hidden))
                if kind == "add" and len(rows) < 20:
                    game.add(*row)
                    past.append(rows)
                    rows += (row,)
                elif kind == "drop" and rows:
                    place = choose.randrange(len(rows))
                    game.drop(place)
                    past.append(rows)
                    rows = rows[:place] + rows[place + 1:]
                elif kind == "undo" and past:
                    game.undo()
                    rows = past.pop()
                elif kind == "change" and len(rows) < 18:
                    game.change(("add", *row), ("add", *row), ("drop", 0))
                    past += [rows, rows + (row,), rows + (row, row)]
                    rows = (rows + (row, row))[1:]
                elif kind == "failing change":
                    with self.assertRaises((InvalidPlace, TooManyRows)):
                        game.change(("add", *row), ("drop", 0), ("drop", 30))
                elif kind == "attempt":
                    attempt(game, lambda inner: [inner.undo() for _ in past[::2]])
                self.assertEqual(game.history.rows, rows)
                self.assertTrue(is_possible(game.history))
            self.assertEqual(taken_back(game), [rows] + past[::-1])

    def test_earlier_histories_do_not_change(self):
        game = game_with(*ROWS[:2])
        earlier = game.history
        game.add(*ROWS[2])
        game.drop(0)
        self.assertEqual([earlier, earlier.rows], [History(BOARD, *ROWS[:2]), ROWS[:2]])

    def test_everything_is_defined_where_it_is_listed(self):
        for name in ("add", "drop", "change", "undo", "trial", "__len__", "__repr__", "__init__"):
            self.assertIn(name, vars(Game))
        for thing in (Game, within, attempt):
            self.assertEqual(thing.__module__, "guessmarks.games")
            self.assertIs(getattr(games, thing.__name__), thing)


if __name__ == "__main__":
    unittest.main()
