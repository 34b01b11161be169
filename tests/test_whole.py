"""What the document promises over the whole program (points [1] to [5])."""

import importlib
import unittest
from itertools import permutations
from random import Random

from guessmarks.boards import Board
from guessmarks.certificates import certify, certify_parting
from guessmarks.checker import holds
from guessmarks.console import Console
from guessmarks.counting import count, count_with, nth_word, place_of
from guessmarks.errors import (InputError, InvalidDeeds, InvalidFacts, InvalidGuesses, InvalidLine, InvalidWord, NoWord,
                               NotABoard, NotAGame, NotAHistory, SizeError, StateError)
from guessmarks.games import Game, attempt, within
from guessmarks.guessing import answers, best_guess, worst_answer
from guessmarks.histories import History
from guessmarks.lists import parting, tells, tells_word, tried, twins
from guessmarks.marking import can_come, marks
from guessmarks.mending import wrong_rows
from guessmarks.reports import answer_text, table_text
from guessmarks.samples import sample_board, sample_history
from guessmarks.tables import is_possible, is_sure, same_words, table
from tests.support import (ALPHABET, Agreeing, Raising, all_facts, all_words, has_fact, marks_by_definition, nested,
                           strange_objects, words_that_fit)

BOARD = Board("abc", 3)

# Each function and each method that takes arguments, with arguments by name and the module that lists it.
CALLS = [
    ("boards", Board, {"letters": "abc", "length": 3}),
    ("boards", lambda: BOARD.word, {"number": 5}),
    ("boards", lambda: BOARD.number, {"word": "abc"}),
    ("marking", marks, {"board": BOARD, "guess": "aab", "word": "aba"}),
    ("marking", can_come, {"board": BOARD, "guess": "aab", "told": "010"}),
    ("histories", History, {"board": BOARD}),
    ("histories", lambda: History(BOARD).then, {"guess": "aab", "told": "210"}),
    ("histories", lambda: History(BOARD, ("aab", "210")).without, {"place": 0}),
    ("histories", lambda: History(BOARD).fits, {"word": "abc"}),
    ("samples", sample_board, {}),
    ("samples", sample_history, {}),
    ("tables", is_possible, {"history": sample_history()}),
    ("tables", table, {"history": sample_history()}),
    ("tables", is_sure, {"history": sample_history(), "fact": ("at", 2, "c")}),
    ("tables", same_words, {"history": sample_history(), "other_history": sample_history()}),
    ("counting", count, {"history": sample_history()}),
    ("counting", nth_word, {"history": sample_history(), "number": 3}),
    ("counting", place_of, {"history": sample_history(), "word": "bece"}),
    ("counting", count_with, {"history": sample_history()}),
    ("guessing", answers, {"history": sample_history(), "guess": "bece"}),
    ("guessing", worst_answer, {"history": sample_history(), "guess": "bece"}),
    ("guessing", best_guess, {"history": sample_history(), "guesses": ("aaaa", "bece")}),
    ("lists", tried, {"board": BOARD, "guesses": ("aab",)}),
    ("lists", tells, {"board": BOARD, "guesses": ("aab",), "other_guesses": ("abb",)}),
    ("lists", tells_word, {"board": BOARD, "guesses": ("aab",)}),
    ("lists", parting, {"board": BOARD, "guesses": ("aab",), "other_guesses": ("abb",)}),
    ("lists", twins, {"board": BOARD, "guesses": ("aab",)}),
    ("mending", wrong_rows, {"history": History(BOARD, ("abc", "222"), ("aaa", "000"))}),
    ("games", within, {"trial": Game(BOARD).trial(), "act": len}),
    ("games", attempt, {"game": Game(BOARD), "act": len}),
    ("checker", holds, {"claim": ("possible", "ab", 1, (), ()), "paper": "a"}),
    ("certificates", certify, {"history": sample_history()}),
    ("certificates", certify_parting, {"board": BOARD, "guesses": ("aab",), "other_guesses": ("abb",)}),
    ("reports", table_text, {"history": sample_history()}),
    ("reports", answer_text, {"history": sample_history(), "guess": "bece"}),
]

ANY_OBJECTS = strange_objects() + ["", "abc", 0, 1, -1, 10 ** 19, Agreeing(), Raising(), nested(15), BOARD,
                                   History(BOARD), Game(BOARD), ("add", "abc", "222"), ("at", 0, "a"), "x" * 500]


def function_of(call):
    """Return the function, or the method of a new object that a lambda without arguments gives."""
    return call() if getattr(call, "__name__", "") == "<lambda>" else call


class NamesTest(unittest.TestCase):
    def test_arguments_by_name_in_any_order(self):
        for module, call, named in CALLS:
            wanted = function_of(call)(*named.values())
            for order in permutations(named):
                self.assertEqual(function_of(call)(**{name: named[name] for name in order}), wanted, (module, named))
                for many in range(len(order)):
                    if list(order[:many]) == list(named)[:many]:
                        self.assertEqual(function_of(call)(*[named[name] for name in order[:many]],
                                                           **{name: named[name] for name in order[many:]}), wanted)

    def test_methods_of_games_and_consoles_by_name(self):
        for strict in (True, False):
            game = Game(strict=strict, board=BOARD)
            game.add(told="210", guess="aab")
            game.change(("add", "aca", "222"), watch=None)
            game.drop(place=1)
            game.undo()
            self.assertEqual(game.history.rows, (("aab", "210"), ("aca", "222")))
        console = Console(board=BOARD)
        self.assertEqual(console.say(line="count"), "27")

    def test_each_function_and_class_is_in_its_module(self):
        for module, call, named in CALLS:
            if getattr(call, "__name__", "") != "<lambda>":
                self.assertEqual(call.__module__, f"guessmarks.{module}")
        listed = {module: {call.__name__ for place, call, named in CALLS
                           if place == module and call.__name__ != "<lambda>"} for module, call, named in CALLS}
        listed["games"].add("Game")
        listed["console"] = {"Console"}
        for module, names in listed.items():
            for name in names:
                self.assertTrue(hasattr(importlib.import_module(f"guessmarks.{module}"), name), name)

    def test_listed_methods_and_attributes(self):
        for kind, names in [(Board, ["word", "number", "__str__", "__repr__", "__eq__"]),
                            (History, ["then", "without", "fits", "__len__", "__str__", "__repr__", "__eq__"]),
                            (Game, ["add", "drop", "change", "undo", "trial", "__len__", "__repr__"]),
                            (Console, ["say"])]:
            for name in names:
                self.assertIn(name, vars(kind))
        for thing, names in [(BOARD, ["letters", "length", "size"]), (History(BOARD), ["board", "rows"]),
                             (Game(BOARD), ["board", "strict", "history", "busy"])]:
            for name in names:
                self.assertTrue(hasattr(thing, name))


class SameResultsTest(unittest.TestCase):
    def test_the_same_call_gives_the_same_result(self):
        for module, call, named in CALLS:
            first, second = (function_of(call)(**named) for _ in range(2))
            self.assertEqual(first, second)
            self.assertIs(type(first), type(second))

    def test_several_results_are_tuples(self):
        for call in (answers, worst_answer):
            self.assertIs(type(call(sample_history(), "bece")), tuple)
        for result in [table(sample_history()), tried(BOARD, ()), twins(BOARD, ()), parting(BOARD, (), ("abc",)),
                       wrong_rows(sample_history()), certify(sample_history()), History(BOARD).rows,
                       certify_parting(BOARD, (), ("abc",))]:
            self.assertIs(type(result), tuple)

    def test_objects_without_a_length_are_true(self):
        for thing in (BOARD, Console(BOARD), Board("ab", 1)):
            self.assertTrue(thing)
        for thing in (History(BOARD), Game(BOARD)):
            self.assertFalse(thing)
        self.assertTrue(History(BOARD, ("aab", "210")))


class AnyObjectsTest(unittest.TestCase):
    """Arguments for which an entry provides an error may be any objects."""

    def refused(self, kinds, call, *args, **named):
        """Check that the call raises an error of one of these classes."""
        try:
            call(*args, **named)
        except kinds:
            return
        self.fail(f"{call} {args} {named}")

    def test_in_place_of_each_argument(self):
        allowed = (InputError, StateError, SizeError)
        for module, call, named in CALLS:
            if module == "checker":
                continue
            for name in [name for name in named if name not in ("trial", "act")]:
                for thing in ANY_OBJECTS:
                    given = {**named, name: thing}
                    try:
                        result = function_of(call)(**given)
                    except allowed as error:
                        if hasattr(error, "value"):
                            self.assertTrue(any(error.value is part for part in given.values()))
                    else:
                        # Some of the objects are what the argument has to be.
                        self.assertTrue(isinstance(thing, (str, int, tuple, Board, History, Game)), (result, name))

    def test_collected_arguments(self):
        for thing in [thing for thing in ANY_OBJECTS if not isinstance(thing, tuple)]:
            for call in (is_possible, count_with, certify):
                self.refused(InvalidFacts, call, sample_history(), thing)
            self.refused(InputError, History, BOARD, thing)
            self.refused(InvalidDeeds, Game(BOARD).change, thing)
            self.refused(InvalidLine, Console(BOARD).say, thing)

    def test_elements_of_lists(self):
        for thing in [thing for thing in ANY_OBJECTS if not isinstance(thing, str)]:
            for call in (tried, tells_word, twins):
                self.refused(InvalidGuesses, call, BOARD, ("abc", thing))
            for call in (tells, parting, certify_parting):
                self.refused(InvalidGuesses, call, BOARD, (thing,), ("abc",))
                self.refused(InvalidGuesses, call, BOARD, ("abc",), (thing,))
            self.refused(InvalidGuesses, best_guess, History(BOARD), (thing,))

    def test_the_first_argument_is_refused_first(self):
        for call, kind, many in [(marks, NotABoard, 2), (can_come, NotABoard, 2), (is_sure, NotAHistory, 1),
                                 (same_words, NotAHistory, 1), (nth_word, NotAHistory, 1), (place_of, NotAHistory, 1),
                                 (answers, NotAHistory, 1), (worst_answer, NotAHistory, 1),
                                 (best_guess, NotAHistory, 1), (tried, NotABoard, 1), (tells, NotABoard, 2),
                                 (tells_word, NotABoard, 1), (parting, NotABoard, 2), (twins, NotABoard, 1),
                                 (certify_parting, NotABoard, 2), (answer_text, NotAHistory, 1),
                                 (attempt, NotAGame, 1)]:
            for thing in ("abc", None, 3):
                self.refused(kind, call, thing, *[None] * many)


class AssurancesTest(unittest.TestCase):
    """The five assurances of point [2]."""

    def test_equal_tables_and_equal_words(self):
        choose = Random(101)
        for letters, length in [("ab", 2), ("abc", 2), ("abc", 3)]:
            board, words = Board(letters, length), all_words(letters, length)
            for _ in range(150):
                histories = []
                for _ in range(2):
                    hidden = choose.choice(words[:3])
                    guesses = choose.choices(words, k=choose.randint(0, 3))
                    rows = [(guess, marks_by_definition(guess, hidden)) for guess in guesses]
                    histories.append(History(board, *rows))
                left = [words_that_fit(words, history.rows) for history in histories]
                self.assertIs(same_words(*histories), left[0] == left[1])
                self.assertEqual(table(histories[0]) == table(histories[1]), left[0] == left[1])

    def test_rounds_about_a_hidden_word(self):
        choose = Random(102)
        for letters, length in [("abc", 3), ("abcde", 4), ("ab", 6), ("abcdefghijkl", 5), (ALPHABET, 6), (ALPHABET, 6)]:
            board = Board(letters, length)
            facts = all_facts(letters, length)
            hidden = "".join(choose.choices(letters, k=length))
            game = Game(board)
            for _ in range(6):
                self.check_round(game, hidden, choose.sample(facts, k=8))
                # Every guess after the first one is near to the hidden word.
                guess = "".join(choose.choice(hidden + letters) for _ in range(length))
                told = marks(board, guess, hidden)
                number = dict(answers(game.history, guess))[told]
                game.add(guess, told)
                self.assertEqual(count(game.history), number)

    def check_round(self, game, hidden, facts):
        """Check what holds of a game with rows that are marked for the hidden word."""
        history = game.history
        self.assertTrue(history.fits(hidden))
        self.assertEqual(nth_word(history, place_of(history, hidden)), hidden)
        letters, bounds = table(history)
        self.assertTrue(all(letter in there for letter, there in zip(hidden, letters)))
        for letter, (least, greatest) in zip(game.board.letters, bounds):
            self.assertTrue(least <= hidden.count(letter) <= greatest)
        self.assertEqual(wrong_rows(history), ())
        many = count(history)
        for fact in facts:
            opposite = opposite_of(fact, game.board.length)
            with_fact = count_with(history, fact)
            without = count_with(history, opposite) if opposite is not None else 0
            self.assertEqual(with_fact + without, many, fact)
            self.assertIs(is_sure(history, fact), without == 0)
            self.assertTrue(with_fact > 0 or not has_fact(hidden, fact))
            for stated, number in [(fact, with_fact), (opposite, without)]:
                if stated is not None:
                    claim, paper = certify(history, stated)
                    self.assertEqual(claim[0], "possible" if number else "impossible")
                    self.assertIs(holds(claim, paper), True)
        self.assertEqual(sum(number for told, number in answers(history, hidden)), many)
        self.assertEqual(dict(answers(history, hidden))["2" * len(hidden)], 1)

    def test_lists_made_in_advance(self):
        choose = Random(103)
        for letters, length in [("abcd", 3), ("abcde", 4), (ALPHABET, 6), (ALPHABET, 3)]:
            board = Board(letters, length)
            for many in (0, 1, 3, 8):
                guesses, others = (tuple("".join(choose.choices(letters[:5], k=length)) for _ in range(number))
                                   for number in (many, 2))
                certificate = certify_parting(board, guesses, others)
                self.assertIs(certificate is None, tells(board, guesses, others))
                if certificate is not None:
                    one, two = certificate[1]
                    histories = [History(board, *[(guess, marks(board, guess, word)) for guess in guesses])
                                 for word in (one, two)]
                    # The rows of the list leave both words, whichever is hidden.
                    self.assertEqual(*histories)
                    self.assertTrue(histories[0].fits(one) and histories[0].fits(two))

    def test_a_game_contains_the_rows_that_its_standing_changes_have_left(self):
        game = Game(sample_board())
        for guess, told in sample_history().rows:
            game.add(guess, told)
        self.assertEqual(game.history, sample_history())
        with self.assertRaises((InvalidWord, NoWord)):
            game.change(("drop", 0), ("add", "dddd", "2222"))
        self.assertEqual(game.history, sample_history())
        game.change(("drop", 0), ("drop", 0))
        game.undo()
        game.undo()
        self.assertEqual(game.history, sample_history())

    def test_errors_descend_from_their_line_alone(self):
        for kind in (NotABoard, NotAHistory, NotAGame, InvalidLine):
            self.assertEqual(kind.__mro__[1:3], (InputError, ValueError))


def opposite_of(fact, length):
    """Return the fact that just the other words have, or None if all words have this one."""
    kind, first, second = fact
    if kind in ("at", "not"):
        return ("not" if kind == "at" else "at", first, second)
    if kind == "least":
        return ("most", first, second - 1) if second > 0 else None
    return ("least", first, second + 1) if second < length else None


if __name__ == "__main__":
    unittest.main()
