"""certify and certify_parting (points [2] to [5], [10]; interface, guessmarks/certificates.py)."""

import unittest
from itertools import product
from random import Random

from guessmarks import certificates
from guessmarks.boards import Board
from guessmarks.certificates import certify, certify_parting
from guessmarks.checker import holds
from guessmarks.counting import count_with
from guessmarks.errors import InvalidGuesses, NotABoard, NotAHistory
from guessmarks.histories import History
from guessmarks.lists import tells
from guessmarks.samples import sample_history
from tests.support import (ALPHABET, all_facts, all_rows, all_words, check_refused_facts, check_refused_guesses, marked,
                           no_histories, no_lists, refused, refuses_value, some_rows, twenty_guesses, words_that_fit)

BOARD = Board("abc", 3)
LARGEST = Board(ALPHABET, 6)
NOTHING_LEFT = History(BOARD, ("abc", "222"), ("aaa", "000"))


class CertifyTest(unittest.TestCase):
    def check(self, board, rows, facts, wanted):
        """Check the certificate; `wanted` tells whether a word is left that has the facts."""
        history = History(board, *rows)
        certificate = certify(history, *facts)
        self.assertEqual([type(certificate), len(certificate)], [tuple, 2])
        claim, paper = certificate
        kind = "possible" if wanted else "impossible"
        self.assertEqual(claim, (kind, board.letters, board.length, tuple(rows), tuple(facts)))
        self.assertEqual([type(part) for part in claim], [str, str, int, tuple, tuple])
        self.assertIs(holds(claim, paper), True, (claim, paper))
        opposite = "impossible" if wanted else "possible"
        self.assertIs(holds((opposite,) + claim[1:], paper), False)
        self.assertEqual(certify(history, *facts), certificate)
        return paper

    def test_each_row_and_each_fact_of_the_smallest_boards(self):
        for letters, length in [("ab", 1), ("ab", 2), ("abc", 1), ("ab", 3)]:
            board, words = Board(letters, length), all_words(letters, length)
            facts = all_facts(letters, length)
            for row in all_rows(letters, length):
                left = words_that_fit(words, (row,))
                self.check(board, (row,), (), bool(left))
                for fact in facts:
                    self.check(board, (row,), (fact,), bool(words_that_fit(left, (), (fact,))))
            for pair in product(facts, repeat=2):
                self.check(board, (), pair, bool(words_that_fit(words, (), pair)))

    def test_pairs_of_rows(self):
        for letters, length in [("ab", 1), ("ab", 2), ("abc", 1)]:
            board, words = Board(letters, length), all_words(letters, length)
            for rows in product(all_rows(letters, length), repeat=2):
                self.check(board, rows, (), bool(words_that_fit(words, rows)))

    def test_chosen_rows_and_facts_on_small_boards(self):
        choose = Random(91)
        forms = {}
        for letters, length in [("ab", 3), ("ab", 4), ("abc", 2), ("abc", 3), ("abc", 4), ("abcd", 3), ("abcd", 4)]:
            board, words = Board(letters, length), all_words(letters, length)
            facts = all_facts(letters, length)
            for _ in range(70):
                one, two = choose.choices(words, k=2)
                few = letters[:choose.randint(2, len(letters))]
                rows = some_rows(choose, few, length, choose.randint(0, 3), one)
                rows += some_rows(choose, few, length, choose.choice([0, 0, 1, 2]), two)
                rows += some_rows(choose, few, length, choose.choice([0, 0, 0, 1]), None)
                chosen = choose.choices(facts, k=choose.choice([0, 0, 1, 2, 3, 4]))
                left = words_that_fit(words, rows, chosen)
                paper = self.check(board, rows, chosen, bool(left))
                if left:
                    self.assertIn(paper, left)
                else:
                    forms[paper[0]] = forms.get(paper[0], 0) + 1
        self.assertEqual(sorted(forms), ["letter", "letters", "places", "row"])

    def test_contradicting_facts(self):
        for board in (BOARD, LARGEST, Board("ab", 6)):
            for facts in [(("at", 0, "a"), ("at", 0, "b")), (("at", 1, "b"), ("not", 1, "b")),
                          (("least", "a", 2), ("most", "a", 1)), (("most", "b", 0), ("at", 2, "b")),
                          (("least", "a", board.length), ("not", 0, "a")),
                          (("least", "a", board.length), ("least", "b", 1))]:
                self.check(board, (), facts, False)
                self.check(board, (), facts[::-1], False)
                self.check(board, (), facts[:1], True)

    def test_the_largest_boards(self):
        choose = Random(92)
        for letters, length in [(ALPHABET, 6), (ALPHABET, 5), ("abcdefgh", 6), (ALPHABET[:20], 4), (ALPHABET, 1),
                                ("ab", 6), ("xyz", 6)]:
            board = Board(letters, length)
            facts = all_facts(letters, length)
            for many in (0, 1, 2, 4, 9):
                for _ in range(5):
                    one, two = ("".join(choose.choices(letters[:7], k=length)) for _ in range(2))
                    rows = some_rows(choose, letters[:7], length, many, one)
                    contradicting = rows + some_rows(choose, letters[:7], length, many, two)
                    true = [fact for fact in choose.choices(facts, k=60) if words_that_fit([one], (), [fact])][:4]
                    self.check(board, rows, true, True)
                    for some in (rows, contradicting):
                        drawn = choose.choices(facts, k=choose.randint(0, 4))
                        wanted = count_with(History(board, *some), *drawn) > 0
                        self.check(board, some, drawn, wanted)

    def test_twenty_rows(self):
        for hidden in ("letter", "banana", "zzzzzz"):
            rows = marked(LARGEST, hidden, *twenty_guesses()).rows
            self.check(LARGEST, rows, (), True)
            self.check(LARGEST, rows, (("at", 0, hidden[0]), ("at", 5, hidden[5])), True)
            self.check(LARGEST, rows, (("most", hidden[0], 0),), False)

    def test_the_hidden_word_and_its_opposite(self):
        history = marked(LARGEST, "letter", "kettle", "abcdef", "rotten")
        self.assertEqual(certify(history, ("at", 0, "l"))[0][0], "possible")
        self.assertEqual(certify(history, ("at", 0, "k"))[0][0], "impossible")

    def test_no_word_left(self):
        for facts in ((), (("at", 0, "a"),), (("most", "a", 3),)):
            self.check(BOARD, NOTHING_LEFT.rows, facts, False)

    def test_arguments_by_name(self):
        self.assertEqual(certify(history=sample_history()), certify(sample_history()))

    def test_what_is_refused(self):
        for history in no_histories(BOARD):
            refuses_value(self, NotAHistory, history, certify, history)
            refuses_value(self, NotAHistory, history, certify, history, ("at", 0, "a"))
            refuses_value(self, NotAHistory, history, certify, history, *([None] * 5))
            refuses_value(self, NotAHistory, history, certify, history=history)
        check_refused_facts(self, History(BOARD), certify)
        check_refused_facts(self, NOTHING_LEFT, certify)


class CertifyPartingTest(unittest.TestCase):
    def check(self, board, guesses, others):
        """Check the certificate and return whether there is one."""
        certificate = certify_parting(board, guesses, others)
        self.assertEqual(certify_parting(board, guesses, others), certificate)
        self.assertEqual(certificate is None, tells(board, guesses, others), (board, guesses, others))
        if certificate is None:
            return False
        self.assertEqual([type(certificate), len(certificate)], [tuple, 2])
        claim, paper = certificate
        self.assertEqual(claim, ("parts", board.letters, board.length, guesses, others))
        self.assertIs(holds(claim, paper), True, certificate)
        for opposite in ("possible", "impossible"):
            self.assertIs(holds((opposite,) + claim[1:], paper), False)
        # Nothing is parted from itself.
        self.assertIs(holds(("parts", board.letters, board.length, guesses, guesses), paper), False)
        return True

    def test_pairs_of_guesses_on_small_boards(self):
        for letters, length in [("ab", 1), ("ab", 2), ("ab", 3), ("abc", 2), ("abcd", 2)]:
            board, words = Board(letters, length), all_words(letters, length)
            for one, two in product(words, repeat=2):
                self.check(board, (one,), (two,))
                self.check(board, (), (one, two))
                self.check(board, (one, two), ())

    def test_chosen_lists(self):
        choose = Random(93)
        found = []
        for letters, length in [("abc", 3), ("abcd", 3), ("abcd", 4), ("abcdef", 6), (ALPHABET, 6), (ALPHABET, 5),
                                (ALPHABET[:21], 4), (ALPHABET, 1)]:
            board = Board(letters, length)
            for many, few in product((0, 1, 2, 5, 20), (2, 3, len(letters))):
                for _ in range(3):
                    guesses = tuple("".join(choose.choices(letters[:few], k=length)) for _ in range(many))
                    number = choose.choice([1, 3])
                    others = tuple("".join(choose.choices(letters[:few], k=length)) for _ in range(number))
                    found.append(self.check(board, guesses, others))
                    self.check(board, guesses, guesses[::-1])
        self.assertEqual(set(found), {True, False})

    def test_arguments_by_name(self):
        wanted = certify_parting(BOARD, ("abc",), ("aaa",))
        self.assertEqual(certify_parting(other_guesses=("aaa",), board=BOARD, guesses=("abc",)), wanted)
        self.assertEqual(certify_parting(BOARD, guesses=("abc",), other_guesses=("aaa",)), wanted)

    def test_what_is_refused(self):
        for board in [board for board in no_histories(BOARD) if not isinstance(board, Board)]:
            for guesses in ((), ("abc",), None):
                refuses_value(self, NotABoard, board, certify_parting, board, guesses, guesses)
        check_refused_guesses(self, lambda guesses: certify_parting(BOARD, guesses, ("abc",)))
        check_refused_guesses(self, lambda guesses: certify_parting(BOARD, ("abc",), guesses))
        for other in no_lists(3) + [("abc",) * 21, (None,)]:
            self.assertEqual(refused(self, InvalidGuesses, certify_parting, BOARD, ("abc", "abd"), other).index, 1)

    def test_the_functions_are_defined_where_they_are_listed(self):
        for call in (certify, certify_parting):
            self.assertEqual(call.__module__, "guessmarks.certificates")
            self.assertIs(getattr(certificates, call.__name__), call)


if __name__ == "__main__":
    unittest.main()
