"""The examples of the document, word for word, and those of README.md."""

import doctest
import unittest
from pathlib import Path

README = Path(__file__).parent.parent / "README.md"

MARKING = '''
>>> from guessmarks.boards import Board
>>> from guessmarks.marking import can_come, marks
>>> board = Board("abc", 3)
>>> [board.size, board.word(5), board.number("bac"), str(board), repr(board)]
[27, 'abc', 11, 'abc 3', 'Board(abc 3)']
>>> [marks(board, "aab", "aba"), marks(board, "aaa", "aba"), marks(board, "bbc", "abb"), marks(board, "bbb", "abb")]
['211', '202', '120', '022']
>>> [can_come(board, "aab", "010"), can_come(board, "abc", "221"), can_come(board, "abc", "100")]
[False, False, False]
'''

TABLES = '''
>>> from guessmarks.samples import sample_history
>>> from guessmarks.tables import is_possible, is_sure, same_words, table
>>> history = sample_history()
>>> table(history)
(('bce', 'ce', 'c', 'bce'), ((0, 0), (1, 2), (1, 2), (0, 0), (1, 2)))
>>> [is_possible(history, ("at", 0, "c"), ("least", "e", 2)), is_possible(history, ("at", 0, "e"), ("most", "e", 1)), is_sure(history, ("at", 2, "c")), is_sure(history, ("not", 3, "e"))]
[False, True, True, False]
>>> [same_words(history, history.then("dddd", "0000")), same_words(history, history.without(0)), table(history.then("bcce", "0000"))]
[True, False, None]
'''

GUESSING = '''
>>> from guessmarks.counting import count, count_with, nth_word, place_of
>>> from guessmarks.guessing import answers, best_guess, worst_answer
>>> from guessmarks.samples import sample_history
>>> history = sample_history()
>>> [count(history), nth_word(history, 0), place_of(history, "bece"), count_with(history, ("at", 1, "e"))]
[7, 'bcce', 3, 5]
>>> answers(history, "bece")
(('1120', 1), ('1220', 1), ('1221', 1), ('2022', 1), ('2220', 2), ('2222', 1))
>>> [worst_answer(history, "aaaa"), best_guess(history, ("aaaa", "aece", "bece"))]
[('0000', 7), 'bece']
'''

LISTS = '''
>>> from guessmarks.boards import Board
>>> from guessmarks.lists import parting, tells, tells_word, tried, twins
>>> from guessmarks.marking import marks
>>> board = Board("abc", 2)
>>> [tried(board, ("ab", "ca")), tells_word(board, ("aa", "bb")), tells(board, ("ab",), ("aa",)), tells(board, ("aa", "bb"), ("cc",)), twins(board, ("ab", "bc"))]
[(('ac', 'ab'), (1, 1, 1)), True, False, True, None]
>>> one, two = parting(board, ("ab",), ("aa",))
>>> [marks(board, "ab", one) == marks(board, "ab", two), marks(board, "aa", one) == marks(board, "aa", two)]
[True, False]
'''

GAMES = '''
>>> from guessmarks.boards import Board
>>> from guessmarks.games import Game, attempt
>>> from guessmarks.histories import History
>>> from guessmarks.mending import wrong_rows
>>> game = Game(Board("abc", 3), strict=True)
>>> game.change(("add", "aab", "210"), ("add", "aca", "222"))
>>> [game.history.rows, attempt(game, len), game.undo(), len(game), repr(game)]
[(('aab', '210'), ('aca', '222')), 2, None, 1, 'Game(1 rows)']
>>> wrong_rows(History(Board("ab", 2), ("aa", "20"), ("ab", "22"), ("ba", "22"), ("bb", "20")))
(0, 1)
'''


CERTIFICATES = '''
>>> from guessmarks.certificates import certify, certify_parting
>>> from guessmarks.checker import holds
>>> from guessmarks.boards import Board
>>> from guessmarks.histories import History
>>> history = History(Board("abc", 3), ("abc", "100"))
>>> [certify(History(Board("ab", 1)), ("at", 0, "b")), certify_parting(Board("abc", 2), ("aa", "bb"), ("cc",))]
[(('possible', 'ab', 1, (), (('at', 0, 'b'),)), 'b'), None]
>>> claim, paper = certify(history)
>>> [claim, holds(claim, paper), holds(claim, ("places", (0,))), holds(claim, ("letters", "a")), holds(claim, "bbb")]
[('impossible', 'abc', 3, (('abc', '100'),), ()), True, True, False, False]
'''

REPORTS = r'''
>>> from guessmarks.reports import answer_text, table_text
>>> from guessmarks.samples import sample_history
>>> [table_text(sample_history()).split("\n")[2:6], answer_text(sample_history(), "aaaa")]
[['2: c', '3: bce', 'a: 0-0', 'b: 1-2'], '0000 7']
'''

CONSOLE = '''
>>> from guessmarks.console import Console
>>> from guessmarks.boards import Board
>>> console = Console(Board("abc", 3))
>>> [console.say("add aab 210"), console.say("letters"), console.say("worst aba"), console.say("add abc 222"), console.say("show"), console.say("undo"), console.say("drop 0")]
['1', 'a c a', '202 1', 'refused', 'aab 210', '27', 'refused']
'''


def failures_of(text, name):
    """Return what doctest says of the examples that fail."""
    told = []
    example = doctest.DocTestParser().get_doctest(text, {}, name, None, 0)
    doctest.DocTestRunner(verbose=False).run(example, out=told.append)
    return len(example.examples), "".join(told)


class ExamplesTest(unittest.TestCase):
    def test_marking(self):
        self.assertEqual(failures_of(MARKING, "marking"), (6, ""))

    def test_tables(self):
        self.assertEqual(failures_of(TABLES, "tables"), (6, ""))

    def test_guessing(self):
        self.assertEqual(failures_of(GUESSING, "guessing"), (7, ""))

    def test_lists(self):
        self.assertEqual(failures_of(LISTS, "lists"), (7, ""))

    def test_games(self):
        self.assertEqual(failures_of(GAMES, "games"), (8, ""))

    def test_certificates(self):
        self.assertEqual(failures_of(CERTIFICATES, "certificates"), (8, ""))

    def test_reports(self):
        self.assertEqual(failures_of(REPORTS, "reports"), (3, ""))

    def test_console(self):
        self.assertEqual(failures_of(CONSOLE, "console"), (4, ""))

    def test_readme(self):
        # A fence would be taken for a part of the result above it.
        text = README.read_text(encoding="utf-8").replace("```", "")
        many, told = failures_of(text, "README.md")
        self.assertGreater(many, 0)
        self.assertEqual(told, "")


if __name__ == "__main__":
    unittest.main()
