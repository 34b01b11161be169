"""table, is_possible, is_sure and same_words (points [2] to [5] and [7] to [10]; interface, guessmarks/tables.py)."""

import unittest
from itertools import permutations, product
from random import Random

from guessmarks import tables
from guessmarks.boards import Board
from guessmarks.errors import InvalidFact, InvalidFacts, Mismatch, NotAHistory, NoWord
from guessmarks.histories import History
from guessmarks.samples import sample_history
from guessmarks.tables import is_possible, is_sure, same_words, table
from tests.patterns import table_of_patterns
from tests.support import (ALPHABET, MIDDLE_BOARDS, SMALL_BOARDS, all_facts, all_words, cases_of_all_rows,
                           check_refused_facts, chosen_cases, has_fact, marked, no_facts, no_histories, refused,
                           refuses_value, some_rows, table_of_words, twenty_guesses, words_that_fit)

BOARD = Board("abc", 3)
LARGEST = Board(ALPHABET, 6)
NOTHING_LEFT = History(BOARD, ("abc", "222"), ("aaa", "000"))


def without(letters, *others):
    """Return the letters without the others."""
    return "".join(letter for letter in letters if letter not in others)


class TableTest(unittest.TestCase):
    def test_all_rows_of_the_smallest_boards(self):
        for letters, length, rows in cases_of_all_rows():
            wanted = table_of_words(letters, length, words_that_fit(all_words(letters, length), rows))
            self.assertEqual(table(History(Board(letters, length), *rows)), wanted, (letters, rows))

    def test_several_rows(self):
        for letters, length, rows in chosen_cases():
            wanted = table_of_words(letters, length, words_that_fit(all_words(letters, length), rows))
            self.assertEqual(table(History(Board(letters, length), *rows)), wanted, (letters, rows))

    def test_the_numbers_of_copies_have_no_gaps(self):
        for letters, length, rows in chosen_cases():
            left = words_that_fit(all_words(letters, length), rows)
            if left:
                letters_told, bounds = table(History(Board(letters, length), *rows))
                for letter, (least, greatest) in zip(letters, bounds):
                    numbers = sorted({word.count(letter) for word in left})
                    self.assertEqual(numbers, list(range(least, greatest + 1)))

    def test_kinds_of_the_result(self):
        letters, bounds = result = table(sample_history())
        self.assertEqual([type(result), type(letters), type(bounds)], [tuple, tuple, tuple])
        self.assertEqual({type(text) for text in letters}, {str})
        self.assertEqual({type(pair) for pair in bounds}, {tuple})
        self.assertEqual({type(number) for pair in bounds for number in pair}, {int})

    def test_no_row(self):
        for letters, length in SMALL_BOARDS + MIDDLE_BOARDS + [(ALPHABET, 1), (ALPHABET, 6), ("yz", 6)]:
            wanted = ((letters,) * length, ((0, length),) * len(letters))
            self.assertEqual(table(History(Board(letters, length))), wanted)

    def test_no_word_left(self):
        self.assertIsNone(table(NOTHING_LEFT))
        self.assertIsNone(table(History(BOARD, ("aaa", "010"))))
        self.assertIsNone(table(History(BOARD, ("abc", "000"))))
        self.assertIsNone(table(History(BOARD, ("abc", "221"))))
        self.assertIsNone(table(History(LARGEST, ("abcdef", "222221"))))
        self.assertIsNone(table(History(LARGEST, ("aabbcc", "010000"))))

    def test_the_history_by_name(self):
        self.assertEqual(table(history=History(Board("ab", 1))), (("ab",), ((0, 1), (0, 1))))

    def test_facts_agree_with_the_table(self):
        for history in (sample_history(), marked(LARGEST, "settle", "letter"), marked(LARGEST, "banana", "abcdef"),
                        History(LARGEST, ("abcabc", "100100")), History(LARGEST, ("aabbcc", "101010"))):
            letters, bounds = table(history)
            board = history.board
            for place, letter in product(range(board.length), board.letters):
                self.assertIs(is_possible(history, ("at", place, letter)), letter in letters[place])
            for letter, (least, greatest) in zip(board.letters, bounds):
                for number in range(board.length + 1):
                    both = (("least", letter, number), ("most", letter, number))
                    self.assertIs(is_possible(history, *both), least <= number <= greatest)


class LargestTableTest(unittest.TestCase):
    def test_one_row_of_twos(self):
        bounds = tuple((int(letter in "abcdef"),) * 2 for letter in ALPHABET)
        self.assertEqual(table(History(LARGEST, ("abcdef", "222222"))), (tuple("abcdef"), bounds))

    def test_one_row_of_zeros(self):
        self.assertEqual(table(History(LARGEST, ("abcdef", "000000"))),
                         ((ALPHABET[6:],) * 6, ((0, 0),) * 6 + ((0, 6),) * 20))
        self.assertEqual(table(History(LARGEST, ("zzzzzz", "000000"))),
                         ((ALPHABET[:25],) * 6, ((0, 6),) * 25 + ((0, 0),)))

    def test_one_row_of_ones(self):
        letters = tuple(without("abcdef", letter) for letter in "abcdef")
        self.assertEqual(table(History(LARGEST, ("abcdef", "111111"))), (letters, ((1, 1),) * 6 + ((0, 0),) * 20))
        # Three letters a have to stand at the places of the letters b, and the other way round.
        self.assertEqual(table(History(LARGEST, ("aaabbb", "111111"))),
                         (("b",) * 3 + ("a",) * 3, ((3, 3),) * 2 + ((0, 0),) * 24))

    def test_mixed_marks_by_hand(self):
        self.assertEqual(table(History(LARGEST, ("aabbcc", "101010"))),
                         ((without(ALPHABET, "a"),) * 2 + (without(ALPHABET, "b"),) * 2 + (without(ALPHABET, "c"),) * 2,
                          ((1, 1),) * 3 + ((0, 3),) * 23))
        others = without(ALPHABET, "b", "c", "d", "e", "f")
        with_b = without(ALPHABET, "c", "d", "e", "f")
        self.assertEqual(table(History(LARGEST, ("abcdef", "210000"))),
                         (("a", others) + (with_b,) * 4, ((1, 5), (1, 4)) + ((0, 0),) * 4 + ((0, 4),) * 20))
        self.assertEqual(table(History(LARGEST, ("abcdef", "222220"))),
                         (("a", "b", "c", "d", "e", without(ALPHABET, "f")),
                          ((1, 2),) * 5 + ((0, 0),) + ((0, 1),) * 20))

    def test_letters_that_stand_together_at_few_places(self):
        # The letters x and y need the first two places, so that no other letter stands there.
        history = History(LARGEST, ("yxxyaa", "110000"), ("aaxyxy", "001100"))
        self.assertEqual(table(history), table_of_patterns(LARGEST, history.rows))
        history = History(LARGEST, ("abxyxy", "001100"), ("abcyxx", "000110"))
        self.assertEqual(table(history), table_of_patterns(LARGEST, history.rows))

    def test_rows_with_few_letters(self):
        choose = Random(4)
        for named, many in [("ab", 1), ("ab", 2), ("xz", 3), ("abc", 1), ("abc", 2), ("mno", 4), ("abcd", 1),
                            ("wxyz", 2), ("abcd", 3), ("abc", 20)]:
            for hidden in ("".join(choose.choices(named + "qr", k=6)), "".join(choose.choices(named, k=6))):
                rows = some_rows(choose, named, 6, many, hidden)
                self.assertEqual(table(History(LARGEST, *rows)), table_of_patterns(LARGEST, rows), rows)
            rows = some_rows(choose, named, 6, many, None)
            self.assertEqual(table(History(LARGEST, *rows)), table_of_patterns(LARGEST, rows), rows)

    def test_rows_with_six_letters(self):
        for guess, told in [("abcdef", "100000"), ("abcdef", "120001"), ("uvwxyz", "111000"), ("aghijk", "111100")]:
            self.assertEqual(table(History(LARGEST, (guess, told))), table_of_patterns(LARGEST, ((guess, told),)))

    def test_twenty_rows_of_one_hidden_word(self):
        for hidden in ("letter", "zebras", "aaaaaa", "qqqzzz"):
            history = marked(LARGEST, hidden, *twenty_guesses())
            letters, bounds = table(history)
            for place in range(6):
                self.assertIn(hidden[place], letters[place])
            for letter, (least, greatest) in zip(ALPHABET, bounds):
                self.assertLessEqual(least, hidden.count(letter))
                self.assertLessEqual(hidden.count(letter), greatest)

    def test_the_guess_that_is_right(self):
        for hidden in ("letter", "banana", "zzzzzz"):
            bounds = tuple((hidden.count(letter),) * 2 for letter in ALPHABET)
            self.assertEqual(table(marked(LARGEST, hidden, "abcdef", hidden, "uvwxyz")), (tuple(hidden), bounds))


class PossibleTest(unittest.TestCase):
    def test_each_fact_on_small_boards(self):
        for letters, length in SMALL_BOARDS:
            board = Board(letters, length)
            words = all_words(letters, length)
            for fact in all_facts(letters, length):
                wanted = bool(words_that_fit(words, (), (fact,)))
                self.assertIs(is_possible(History(board), fact), wanted, (letters, length, fact))

    def test_each_fact_with_rows(self):
        for letters, length, rows in chosen_cases()[::7]:
            history = History(Board(letters, length), *rows)
            left = words_that_fit(all_words(letters, length), rows)
            for fact in all_facts(letters, length):
                self.assertIs(is_possible(history, fact), any(has_fact(word, fact) for word in left), (rows, fact))

    def test_several_facts(self):
        choose = Random(8)
        for letters, length, rows in chosen_cases():
            history = History(Board(letters, length), *rows)
            left = words_that_fit(all_words(letters, length), rows)
            for many in range(5):
                facts = choose.choices(all_facts(letters, length), k=many)
                wanted = any(all(has_fact(word, fact) for fact in facts) for word in left)
                self.assertIs(is_possible(history, *facts), wanted, (rows, facts))

    def test_each_pair_of_facts_on_a_tiny_board(self):
        words = all_words("ab", 2)
        for facts in product(all_facts("ab", 2), repeat=2):
            self.assertIs(is_possible(History(Board("ab", 2)), *facts), bool(words_that_fit(words, (), facts)), facts)

    def test_no_fact(self):
        self.assertIs(is_possible(History(BOARD)), True)
        self.assertIs(is_possible(sample_history()), True)
        self.assertIs(is_possible(history=sample_history()), True)
        self.assertIs(is_possible(NOTHING_LEFT), False)

    def test_nothing_is_possible_if_no_word_is_left(self):
        for fact in all_facts("abc", 3):
            self.assertIs(is_possible(NOTHING_LEFT, fact), False)

    def test_contradicting_and_repeated_facts(self):
        history = History(BOARD)
        self.assertIs(is_possible(history, ("at", 0, "a"), ("at", 0, "b")), False)
        self.assertIs(is_possible(history, ("at", 0, "a"), ("not", 0, "a")), False)
        self.assertIs(is_possible(history, ("least", "a", 2), ("most", "a", 1)), False)
        self.assertIs(is_possible(history, ("at", 1, "b"), ("most", "b", 0)), False)
        self.assertIs(is_possible(history, ("least", "a", 2), ("least", "b", 2)), False)
        self.assertIs(is_possible(history, ("not", 0, "a"), ("not", 0, "b"), ("not", 0, "c")), False)
        self.assertIs(is_possible(history, ("most", "a", 0), ("most", "b", 1), ("most", "c", 1)), False)
        self.assertIs(is_possible(history, ("most", "a", 1), ("most", "b", 1), ("most", "c", 1)), True)
        self.assertIs(is_possible(history, *([("at", 0, "a")] * 4)), True)
        self.assertIs(is_possible(history, *([("least", "c", 3)] * 4)), True)

    def test_the_least_and_the_greatest_places_and_numbers(self):
        history = History(BOARD)
        for fact in [("at", 0, "a"), ("at", 2, "c"), ("not", 0, "c"), ("not", 2, "a"), ("least", "a", 0),
                     ("least", "c", 3), ("most", "a", 0), ("most", "c", 3)]:
            self.assertIs(is_possible(history, fact), True, fact)
        for fact in [("at", 0, "a"), ("at", 5, "z"), ("least", "z", 6), ("most", "a", 0), ("most", "m", 6)]:
            self.assertIs(is_possible(History(LARGEST), fact), True, fact)

    def test_facts_on_the_largest_board(self):
        ones = History(LARGEST, ("abcdef", "111111"))
        self.assertIs(is_possible(ones, ("at", 0, "b"), ("at", 1, "a"), ("at", 2, "d"), ("at", 3, "c")), True)
        self.assertIs(is_possible(ones, ("at", 0, "b"), ("at", 1, "c"), ("at", 2, "d"), ("at", 3, "e")), True)
        self.assertIs(is_possible(ones, ("at", 0, "b"), ("at", 1, "c"), ("at", 2, "a"), ("at", 3, "e")), True)
        self.assertIs(is_possible(ones, ("at", 0, "b"), ("at", 1, "c"), ("at", 2, "d"), ("at", 3, "a")), True)
        self.assertIs(is_possible(ones, ("at", 0, "b"), ("at", 2, "d"), ("at", 3, "c"), ("at", 5, "a")), True)
        self.assertIs(is_possible(ones, ("at", 0, "b"), ("at", 5, "b")), False)
        self.assertIs(is_possible(ones, ("at", 0, "a")), False)
        self.assertIs(is_possible(ones, ("at", 0, "g")), False)
        self.assertIs(is_possible(ones, ("least", "a", 2)), False)
        self.assertIs(is_possible(ones, ("at", 0, "b"), ("at", 1, "a"), ("at", 2, "d"), ("at", 3, "e")), True)
        self.assertIs(is_possible(ones, ("not", 0, "b"), ("not", 0, "c"), ("not", 0, "d"), ("not", 0, "e")), True)
        empty = History(LARGEST)
        self.assertIs(is_possible(empty, *[("most", letter, 0) for letter in "abcd"]), True)
        self.assertIs(is_possible(empty, ("least", "a", 3), ("least", "z", 3), ("at", 0, "z"), ("at", 5, "a")), True)
        self.assertIs(is_possible(empty, ("least", "a", 3), ("least", "z", 3), ("at", 0, "m")), False)
        self.assertIs(is_possible(empty, ("least", "a", 3), ("least", "z", 4)), False)


class SureTest(unittest.TestCase):
    def test_each_fact_on_small_boards(self):
        for letters, length in SMALL_BOARDS:
            words = all_words(letters, length)
            for fact in all_facts(letters, length):
                wanted = all(has_fact(word, fact) for word in words)
                self.assertIs(is_sure(History(Board(letters, length)), fact), wanted, (letters, length, fact))

    def test_each_fact_with_rows(self):
        for letters, length, rows in chosen_cases()[::7]:
            history = History(Board(letters, length), *rows)
            left = words_that_fit(all_words(letters, length), rows)
            for fact in all_facts(letters, length):
                if left:
                    wanted = all(has_fact(word, fact) for word in left)
                    self.assertIs(is_sure(history, fact), wanted, (rows, fact))
                else:
                    refused(self, NoWord, is_sure, history, fact)

    def test_a_fact_is_sure_if_the_opposite_is_not_possible(self):
        for history in (History(LARGEST), marked(LARGEST, "settle", "letter"), marked(LARGEST, "banana", "abcdef"),
                        History(LARGEST, ("aaabbb", "111111")), History(LARGEST, ("aabbcc", "101010"))):
            for place, letter in product(range(6), "abcelmnrstz"):
                self.assertIs(is_sure(history, ("at", place, letter)), not is_possible(history, ("not", place, letter)))
                self.assertIs(is_sure(history, ("not", place, letter)), not is_possible(history, ("at", place, letter)))
            for letter, number in product("abcelmnrstz", range(6)):
                self.assertIs(is_sure(history, ("most", letter, number)),
                              not is_possible(history, ("least", letter, number + 1)))
                self.assertIs(is_sure(history, ("least", letter, number + 1)),
                              not is_possible(history, ("most", letter, number)))

    def test_what_is_always_sure(self):
        for history in (History(BOARD), sample_history(), History(LARGEST), History(LARGEST, ("aabbcc", "101010"))):
            for letter in history.board.letters:
                self.assertIs(is_sure(history, ("least", letter, 0)), True)
                self.assertIs(is_sure(history, ("most", letter, history.board.length)), True)

    def test_by_hand_on_the_largest_board(self):
        history = History(LARGEST, ("abcdef", "222220"))
        told = [(("at", 0, "a"), True), (("at", 5, "g"), False), (("not", 5, "f"), True), (("not", 0, "b"), True),
                (("least", "a", 1), True), (("least", "a", 2), False), (("most", "a", 2), True),
                (("most", "a", 1), False), (("most", "f", 0), True), (("most", "g", 0), False),
                (("most", "g", 1), True)]
        for fact, wanted in told:
            self.assertIs(is_sure(history, fact), wanted, fact)

    def test_arguments_by_name(self):
        self.assertIs(is_sure(history=sample_history(), fact=("at", 2, "c")), True)
        self.assertIs(is_sure(fact=("not", 3, "e"), history=sample_history()), False)


class SameWordsTest(unittest.TestCase):
    def assert_same(self, one, other, wanted):
        self.assertIs(same_words(one, other), wanted, (one.rows, other.rows))
        self.assertIs(same_words(other, one), wanted, (one.rows, other.rows))

    def test_all_pairs_of_rows_on_tiny_boards(self):
        for letters, length in [("ab", 1), ("ab", 2), ("abc", 1)]:
            board = Board(letters, length)
            words = all_words(letters, length)
            rows = [rows for case, many, rows in cases_of_all_rows() if (case, many) == (letters, length)][:60]
            for one, other in product(rows, repeat=2):
                wanted = words_that_fit(words, one) == words_that_fit(words, other)
                self.assertIs(same_words(History(board, *one), History(board, *other)), wanted, (one, other))

    def test_two_sequences_leave_the_same_words_exactly_if_their_tables_are_equal(self):
        cases = chosen_cases()
        for letters, length in SMALL_BOARDS + MIDDLE_BOARDS:
            words = all_words(letters, length)
            told = [rows for case, many, rows in cases if (case, many) == (letters, length)][::2]
            left = [words_that_fit(words, rows) for rows in told]
            made = [History(Board(letters, length), *rows) for rows in told]
            listed = [table(history) for history in made]
            for one, other in product(range(len(told)), repeat=2):
                wanted = left[one] == left[other]
                self.assertIs(same_words(made[one], made[other]), wanted, (told[one], told[other]))
                self.assertIs(listed[one] == listed[other], wanted, (told[one], told[other]))

    def test_another_order_and_repeated_rows(self):
        for board, hidden, guesses in [(Board("abcde", 4), "bece", ("abcd", "aaea", "eeee")),
                                       (LARGEST, "settle", ("letter", "abcdef", "seesaw"))]:
            history = marked(board, hidden, *guesses)
            for order in permutations(history.rows):
                self.assert_same(history, History(board, *order), True)
                self.assert_same(history, History(board, *order, *order), True)
            self.assert_same(history, history.without(2), False)

    def test_a_row_that_follows_from_others(self):
        history = History(LARGEST, ("abcdef", "222000"))
        for row in [("abcdef", "222000"), ("abcfed", "222000"), ("abdeff", "220000"), ("bdefdd", "100000"),
                    ("dddddd", "000000")]:
            self.assert_same(history, history.then(*row), True)
        for row in [("abcdeg", "222000"), ("aaabbb", "200100"), ("defabc", "000111"), ("abcaaa", "222000")]:
            self.assert_same(history, history.then(*row), False)
        history = History(LARGEST, ("aaabbb", "111111"))
        self.assert_same(history, History(LARGEST, ("bbbaaa", "222222")), True)
        self.assert_same(history, history.then("cccccc", "000000"), True)
        self.assert_same(history, history.then("bababa", "212121"), False)

    def test_rows_that_tell_more(self):
        empty = History(LARGEST)
        self.assert_same(empty, empty, True)
        self.assert_same(empty, empty.then("zzzzzz", "000000"), False)
        self.assert_same(empty.then("zzzzzz", "000000"), empty.then("yyyyyy", "000000"), False)
        self.assert_same(empty.then("zzzzzz", "200000"), empty.then("zzzzzz", "020000"), False)
        self.assert_same(History(LARGEST, ("abcdef", "000000")), History(LARGEST, ("fedcba", "000000")), True)
        self.assert_same(History(LARGEST, ("abcdef", "000000")), History(LARGEST, ("abcdee", "000000")), False)

    def test_as_many_words_are_not_the_same_words(self):
        self.assert_same(History(BOARD, ("aaa", "222")), History(BOARD, ("bbb", "222")), False)
        self.assert_same(History(LARGEST, ("abcdef", "111111")), History(LARGEST, ("bcdefg", "111111")), False)

    def test_no_word_left_by_both(self):
        others = [History(BOARD, ("aaa", "010")), History(BOARD, ("abc", "221")), History(BOARD, ("abc", "000"))]
        for other in others:
            self.assert_same(NOTHING_LEFT, other, True)
            self.assert_same(History(BOARD), other, False)
            self.assert_same(History(BOARD, ("aaa", "222")), other, False)

    def test_twenty_rows_in_both(self):
        history = marked(LARGEST, "letter", *twenty_guesses())
        self.assert_same(history, History(LARGEST, *history.rows[::-1]), True)
        self.assert_same(history, marked(LARGEST, "zebras", *twenty_guesses()), False)

    def test_arguments_by_name(self):
        self.assertIs(same_words(history=History(BOARD), other_history=NOTHING_LEFT), False)
        self.assertIs(same_words(other_history=History(BOARD), history=History(Board("abc", 3))), True)


class ErrorsTest(unittest.TestCase):
    def test_what_is_no_history(self):
        good = History(BOARD)
        for history in no_histories(BOARD):
            refuses_value(self, NotAHistory, history, is_possible, history)
            refuses_value(self, NotAHistory, history, is_possible, history, ("at", 0, "a"))
            refuses_value(self, NotAHistory, history, is_possible, history=history)
            refuses_value(self, NotAHistory, history, table, history)
            refuses_value(self, NotAHistory, history, table, history=history)
            refuses_value(self, NotAHistory, history, is_sure, history, ("at", 0, "a"))
            refuses_value(self, NotAHistory, history, is_sure, fact=("at", 0, "a"), history=history)
            refuses_value(self, NotAHistory, history, same_words, history, good)
            refuses_value(self, NotAHistory, history, same_words, good, history)
            refuses_value(self, NotAHistory, history, same_words, other_history=history, history=good)

    def test_the_history_is_refused_ahead_of_the_facts(self):
        for history in (None, "abc", True, BOARD):
            for facts in [(None,), (("at", 3, "a"),), (None,) * 5, (("at", 0, "a"),) * 5]:
                refuses_value(self, NotAHistory, history, is_possible, history, *facts)
            for fact in (None, ("at", 3, "a"), [], "at"):
                refuses_value(self, NotAHistory, history, is_sure, history, fact)
                refuses_value(self, NotAHistory, history, is_sure, fact=fact, history=history)

    def test_both_histories_are_looked_at_in_their_order(self):
        for one, other in [(None, True), (True, None), ("abc", 3), ([], ())]:
            refuses_value(self, NotAHistory, one, same_words, one, other)
            refuses_value(self, NotAHistory, one, same_words, other_history=other, history=one)

    def test_facts_that_are_none(self):
        check_refused_facts(self, History(BOARD), is_possible)

    def test_facts_are_refused_also_if_no_word_is_left(self):
        for fact in no_facts(BOARD):
            self.assertEqual(refused(self, InvalidFacts, is_possible, NOTHING_LEFT, fact).index, 0)
            refuses_value(self, InvalidFact, fact, is_sure, NOTHING_LEFT, fact)

    def test_a_fact_that_is_none(self):
        for history in (History(BOARD), History(BOARD, ("abc", "222"))):
            for fact in no_facts(BOARD):
                refuses_value(self, InvalidFact, fact, is_sure, history, fact)
                refuses_value(self, InvalidFact, fact, is_sure, fact=fact, history=history)

    def test_facts_of_another_board(self):
        for letters, length, fact in [("abd", 3, ("at", 0, "c")), ("abc", 2, ("at", 2, "a")),
                                      ("abc", 2, ("least", "a", 3)), ("ab", 6, ("most", "c", 6)),
                                      (ALPHABET, 6, ("at", 6, "a")), (ALPHABET, 6, ("most", "a", 7)),
                                      (ALPHABET, 1, ("not", 1, "a")), (ALPHABET, 1, ("least", "z", 2))]:
            history = History(Board(letters, length))
            self.assertEqual(refused(self, InvalidFacts, is_possible, history, fact).index, 0)
            refuses_value(self, InvalidFact, fact, is_sure, history, fact)

    def test_no_word_left(self):
        for history in (NOTHING_LEFT, History(BOARD, ("aaa", "010"))):
            for fact in all_facts("abc", 3):
                refused(self, NoWord, is_sure, history, fact)

    def test_different_boards(self):
        for board in (Board("abcd", 3), Board("abc", 2), Board("abd", 3), LARGEST):
            refused(self, Mismatch, same_words, History(BOARD), History(board))
            refused(self, Mismatch, same_words, History(board), History(BOARD))
            refused(self, Mismatch, same_words, other_history=History(board), history=NOTHING_LEFT)

    def test_equal_boards_are_enough(self):
        self.assertIs(same_words(History(Board("abc", 3)), History(Board("abc", 3))), True)


class UnchangedTest(unittest.TestCase):
    def test_no_call_changes_the_history_or_later_results(self):
        history = sample_history()

        def results():
            return [table(history), is_possible(history, ("at", 0, "c")), is_sure(history, ("at", 2, "c"))]

        first = results()
        for fact in (None, ("at", 4, "a"), ("at", 0, "a"), ("most", "c", 0)):
            for call in (is_possible, is_sure):
                try:
                    call(history, fact)
                except (InvalidFact, InvalidFacts):
                    pass
        same_words(history, history.without(0))
        self.assertEqual(results(), first)
        self.assertEqual(history, sample_history())

    def test_the_functions_are_defined_where_they_are_listed(self):
        for call in (tables.table, tables.is_possible, tables.is_sure, tables.same_words):
            self.assertEqual(call.__module__, "guessmarks.tables")


if __name__ == "__main__":
    unittest.main()
