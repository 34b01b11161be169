"""count, nth_word, place_of and count_with (points [2] to [5], [8] to [10]; interface, guessmarks/counting.py)."""

import unittest
from itertools import product
from random import Random

from guessmarks import counting
from guessmarks.boards import Board
from guessmarks.counting import count, count_with, nth_word, place_of
from guessmarks.errors import InvalidFacts, InvalidNumber, InvalidWord, NotAHistory, WordNotLeft
from guessmarks.histories import History
from guessmarks.samples import sample_history
from tests.patterns import count_of_patterns
from tests.support import (ALPHABET, MIDDLE_BOARDS, SMALL_BOARDS, all_facts, all_words, cases_of_all_rows,
                           check_refused_facts, chosen_cases, marked, nested, no_facts, no_histories, refused,
                           refuses_value, some_rows, strange_objects, twenty_guesses, words_that_fit)

BOARD = Board("abc", 3)
LARGEST = Board(ALPHABET, 6)
NOTHING_LEFT = History(BOARD, ("abc", "222"), ("aaa", "000"))

NO_NUMBERS = [-1, -2, -27, -(10 ** 19), 10 ** 19, 10 ** 20 - 1, "", "0", "1", "abc", b"0", (0,), [0], {0: 0},
              nested(15)] + strange_objects()

NO_WORDS = ["", "a", "ab", "abca", "abd", "ABC", "ab ", "abc\n", "012", "ab" * 250, 0, 3, -1, b"abc", ("a", "b", "c"),
            ["a", "b", "c"], ("abc",), ("abc", "012"), nested(15)] + strange_objects()

# Rows of the largest board and how many words they leave, counted by hand.
COUNTED = [
    ((), 308915776),
    ((("abcdef", "222222"),), 1),
    ((("abcdef", "222220"),), 25),
    ((("abcdef", "222200"),), 24 ** 2),
    ((("abcdef", "200000"),), 21 ** 5),
    ((("abcdef", "000000"),), 20 ** 6),
    ((("aaaaaa", "000000"),), 25 ** 6),
    ((("aaaaaa", "200000"),), 25 ** 5),
    ((("aaaaaa", "222222"),), 1),
    ((("aaabbb", "222000"),), 25 ** 3),
    # Six different letters, none at its place.
    ((("abcdef", "111111"),), 265),
    ((("aaabbb", "111111"),), 1),
    # Each copy of a stands at one of four places, and then b and c have to avoid two places each.
    ((("aabbcc", "111111"),), 10),
    ((("aabbcc", "101010"),), 40 * 23 ** 3),
    # The last letter stands at one of the first five places, but not at the last one.
    ((("abcdef", "000001"),), (21 ** 5 - 20 ** 5) * 20),
    ((("abcdef", "210000"),), 21 * (22 ** 4 - 21 ** 4)),
    ((("abcdef", "222221"),), 0),
    ((("aabbcc", "010000"),), 0),
    ((("abcdef", "222222"), ("abcdef", "222220")), 0),
    ((("abcdef", "000000"), ("ghijkl", "000000")), 14 ** 6),
    ((("abcdef", "000000"), ("ghijkl", "000000"), ("mnopqr", "000000"), ("stuvwx", "000000")), 64),
    ((("abcdef", "000000"), ("ghijkl", "000000"), ("mnopqr", "000000"), ("stuvwx", "000000"), ("yyyyyy", "000000")), 1),
    ((("abcdef", "000000"), ("ghijkl", "000000"), ("mnopqr", "000000"), ("stuvwx", "000000"), ("yzyzyz", "000000")), 0),
]

# Facts and how many words of the largest board have them, counted by hand.
COUNTED_FACTS = [
    ((("at", 0, "c"),), 26 ** 5),
    ((("not", 5, "z"),), 25 * 26 ** 5),
    ((("at", 0, "c"), ("at", 5, "c")), 26 ** 4),
    ((("at", 0, "a"), ("at", 1, "b"), ("at", 2, "c"), ("at", 3, "d")), 26 ** 2),
    ((("not", 2, "a"), ("not", 2, "b"), ("not", 2, "c"), ("not", 3, "c")), 23 * 25 * 26 ** 4),
    ((("at", 0, "a"), ("at", 0, "b")), 0),
    ((("at", 0, "a"), ("not", 0, "a")), 0),
    ((("at", 0, "a"),) * 4, 26 ** 5),
    ((("not", 0, "a"),) * 4, 25 * 26 ** 5),
    ((("least", "m", 0),), 26 ** 6),
    ((("least", "m", 1),), 26 ** 6 - 25 ** 6),
    ((("least", "m", 2),), 26 ** 6 - 25 ** 6 - 6 * 25 ** 5),
    ((("least", "m", 5),), 6 * 25 + 1),
    ((("least", "m", 6),), 1),
    ((("most", "m", 0),), 25 ** 6),
    ((("most", "m", 1),), 25 ** 6 + 6 * 25 ** 5),
    ((("most", "m", 5),), 26 ** 6 - 1),
    ((("most", "m", 6),), 26 ** 6),
    ((("least", "m", 3), ("most", "m", 3)), 20 * 25 ** 3),
    ((("least", "m", 3), ("most", "m", 2)), 0),
    ((("least", "a", 3), ("least", "z", 3)), 20),
    ((("least", "a", 2), ("least", "b", 2), ("least", "c", 2)), 90),
    ((("least", "a", 2), ("least", "b", 2), ("least", "c", 2), ("least", "d", 1)), 0),
    ((("most", "a", 0), ("most", "b", 0), ("most", "y", 0), ("most", "z", 0)), 22 ** 6),
    ((("most", "a", 5), ("most", "b", 5), ("most", "y", 5), ("most", "z", 5)), 26 ** 6 - 4),
    ((("least", "a", 5), ("not", 0, "a"), ("not", 1, "a")), 0),
    ((("least", "a", 5), ("not", 0, "a"), ("at", 0, "q")), 1),
]


def large_histories():
    """Return pairs (hidden word, history) of the largest board."""
    pairs = []
    for hidden in ("letter", "banana", "zzzzzz", "aaaaaa", "abcdef", "quartz"):
        for guesses in [(), ("abcdef",), ("aabbcc",), ("letter", "kettle"), ("zzaabb", "uvwxyz", "nanana"), (hidden,),
                        twenty_guesses()]:
            pairs.append((hidden, marked(LARGEST, hidden, *guesses)))
    return pairs


class CountTest(unittest.TestCase):
    def test_all_rows_of_the_smallest_boards(self):
        for letters, length, rows in cases_of_all_rows():
            wanted = len(words_that_fit(all_words(letters, length), rows))
            self.assertEqual(count(History(Board(letters, length), *rows)), wanted, (letters, rows))

    def test_several_rows(self):
        for letters, length, rows in chosen_cases():
            wanted = len(words_that_fit(all_words(letters, length), rows))
            self.assertEqual(count(History(Board(letters, length), *rows)), wanted, (letters, rows))

    def test_the_counts_of_all_marks_of_a_guess_add_up(self):
        for letters, guess in [("abc", "abca"), ("abcd", "aabb"), (ALPHABET, "abcdef"), (ALPHABET, "aabbcc"),
                               (ALPHABET, "zzzzzz")]:
            board = Board(letters, len(guess))
            many = [count(History(board, (guess, "".join(told)))) for told in product("012", repeat=len(guess))]
            self.assertEqual(sum(many), board.size)

    def test_no_row(self):
        for letters, length in SMALL_BOARDS + MIDDLE_BOARDS + [(ALPHABET, 1), (ALPHABET, 6)]:
            self.assertEqual(count(History(Board(letters, length))), len(letters) ** length)

    def test_by_hand_on_the_largest_board(self):
        for rows, wanted in COUNTED:
            self.assertEqual(count(History(LARGEST, *rows)), wanted, rows)

    def test_rows_with_few_letters_on_the_largest_board(self):
        choose = Random(5)
        for named, many in [("ab", 1), ("ab", 2), ("xz", 3), ("abc", 1), ("abc", 1), ("abc", 2), ("mno", 3),
                            ("abcd", 1), ("wxyz", 2), ("abc", 20)]:
            for hidden in ("".join(choose.choices(named + "qr", k=6)), "".join(choose.choices(named, k=6)), None):
                rows = some_rows(choose, named, 6, many, hidden)
                self.assertEqual(count(History(LARGEST, *rows)), count_of_patterns(LARGEST, rows), rows)

    def test_rows_with_all_letters_of_a_large_board(self):
        choose = Random(6)
        board = Board("aeiou", 6)
        for many in (1, 1, 2, 3):
            rows = some_rows(choose, "aeiou", 6, many, "".join(choose.choices("aeiou", k=6)))
            self.assertEqual(count(History(board, *rows)), count_of_patterns(board, rows), rows)

    def test_result_is_an_integer(self):
        for history in (History(LARGEST), sample_history(), NOTHING_LEFT):
            self.assertIs(type(count(history)), int)

    def test_the_history_by_name(self):
        self.assertEqual(count(history=sample_history()), 7)


class NumberTest(unittest.TestCase):
    def test_all_words_that_are_left(self):
        for letters, length, rows in cases_of_all_rows() + chosen_cases():
            history = History(Board(letters, length), *rows)
            left = words_that_fit(all_words(letters, length), rows)
            self.assertEqual([nth_word(history, number) for number in range(len(left))], left, rows)
            self.assertEqual([place_of(history, word) for word in left], list(range(len(left))), rows)

    def test_no_row(self):
        for board in (Board("abc", 4), Board("az", 6), LARGEST, Board(ALPHABET, 1)):
            history = History(board)
            for number in {0, 1, board.size // 3, board.size // 2, board.size - 2, board.size - 1}:
                self.assertEqual(nth_word(history, number), board.word(number))
                self.assertEqual(place_of(history, board.word(number)), number)

    def test_there_and_back_on_the_largest_board(self):
        for hidden, history in large_histories():
            many = count(history)
            before = None
            numbers = {0, 1, many // 7, many // 3, many // 2, many - 2, many - 1}
            for number in sorted(number for number in numbers if 0 <= number < many):
                word = nth_word(history, number)
                self.assertIs(type(word), str)
                self.assertTrue(history.fits(word))
                self.assertEqual(place_of(history, word), number)
                self.assertTrue(before is None or before < word)
                before = word

    def test_the_hidden_word_has_a_number(self):
        for hidden, history in large_histories():
            number = place_of(history, hidden)
            self.assertIs(type(number), int)
            self.assertTrue(0 <= number < count(history))
            self.assertEqual(nth_word(history, number), hidden)

    def test_each_number_of_some_histories_of_the_largest_board(self):
        ones = History(LARGEST, ("abcdef", "111111"))
        wanted = words_that_fit(all_words("abcdef", 6), ones.rows)
        self.assertEqual([nth_word(ones, number) for number in range(count(ones))], wanted)
        self.assertEqual([place_of(ones, word) for word in wanted], list(range(265)))
        nearly = History(LARGEST, ("mnopqr", "222220"))
        wanted = ["mnopq" + letter for letter in ALPHABET if letter != "r"]
        self.assertEqual([nth_word(nearly, number) for number in range(count(nearly))], wanted)
        self.assertEqual([place_of(nearly, word) for word in wanted], list(range(25)))

    def test_by_hand_on_the_largest_board(self):
        zeros = History(LARGEST, ("abcdef", "000000"))
        self.assertEqual([nth_word(zeros, 0), nth_word(zeros, 1), nth_word(zeros, 20)], ["gggggg", "gggggh", "gggghg"])
        self.assertEqual(nth_word(zeros, 20 ** 6 - 1), "zzzzzz")
        self.assertEqual(place_of(zeros, "hggggg"), 20 ** 5)
        one = History(LARGEST, ("zzzzzz", "000002"))
        self.assertEqual([nth_word(one, 0), nth_word(one, 25 ** 5 - 1)], ["aaaaaz", "yyyyyz"])
        self.assertEqual(place_of(one, "baaaaz"), 25 ** 4)

    def test_neighbours_on_the_largest_board(self):
        # No word that is left stands between two words whose numbers follow each other.
        history = History(LARGEST, ("aabbcc", "101010"))
        for start in (0, 5000, 243340, 486670):
            words = [nth_word(history, start + step) for step in range(10)]
            first, last = (LARGEST.number(word) for word in (words[0], words[-1]))
            left = [word for word in map(LARGEST.word, range(first, last + 1)) if history.fits(word)]
            self.assertEqual(words, left)

    def test_arguments_by_name(self):
        self.assertEqual(nth_word(history=sample_history(), number=0), "bcce")
        self.assertEqual(nth_word(number=0, history=sample_history()), "bcce")
        self.assertEqual(place_of(history=sample_history(), word="bece"), 3)
        self.assertEqual(place_of(word="bece", history=sample_history()), 3)


class CountWithTest(unittest.TestCase):
    def test_each_fact_on_small_boards(self):
        for letters, length in SMALL_BOARDS:
            words = all_words(letters, length)
            history = History(Board(letters, length))
            for fact in all_facts(letters, length):
                self.assertEqual(count_with(history, fact), len(words_that_fit(words, (), (fact,))), fact)

    def test_each_pair_of_facts_on_a_tiny_board(self):
        words = all_words("ab", 2)
        for facts in product(all_facts("ab", 2), repeat=2):
            self.assertEqual(count_with(History(Board("ab", 2)), *facts), len(words_that_fit(words, (), facts)), facts)

    def test_several_facts_with_rows(self):
        choose = Random(9)
        for letters, length, rows in chosen_cases():
            history = History(Board(letters, length), *rows)
            left = words_that_fit(all_words(letters, length), rows)
            for many in range(5):
                facts = choose.choices(all_facts(letters, length), k=many)
                self.assertEqual(count_with(history, *facts), len(words_that_fit(left, (), facts)), (rows, facts))
                again = facts[:1] * many
                self.assertEqual(count_with(history, *again), len(words_that_fit(left, (), again)), (rows, again))

    def test_several_facts_without_rows(self):
        choose = Random(10)
        for letters, length in SMALL_BOARDS + MIDDLE_BOARDS:
            words = all_words(letters, length)
            for many in (2, 2, 3, 3, 4, 4, 4, 4):
                facts = choose.choices(all_facts(letters, length), k=many)
                wanted = len(words_that_fit(words, (), facts))
                self.assertEqual(count_with(History(Board(letters, length)), *facts), wanted, facts)

    def test_by_hand_on_the_largest_board(self):
        for facts, wanted in COUNTED_FACTS:
            self.assertEqual(count_with(History(LARGEST), *facts), wanted, facts)
            self.assertEqual(count_with(History(LARGEST), *facts[::-1]), wanted, facts)

    def test_rows_and_facts_on_the_largest_board(self):
        choose = Random(11)
        for many in (0, 1, 1, 2, 3):
            for hidden in ("abcabc", "aqbrrr", "cccccc"):
                rows = some_rows(choose, "abc", 6, many, hidden)
                for facts in [(("most", "a", 1), ("most", "b", 1), ("most", "c", 2)),
                              (("at", 3, "a"), ("least", "c", 1)),
                              (("not", 0, "a"), ("not", 0, "q"), ("least", "q", 1), ("most", "r", 1))]:
                    wanted = count_of_patterns(LARGEST, rows, facts)
                    self.assertEqual(count_with(History(LARGEST, *rows), *facts), wanted, (rows, facts))

    def test_the_letters_of_a_place_add_up(self):
        for hidden, history in large_histories():
            many = count(history)
            for place in (0, 3, 5):
                told = [count_with(history, ("at", place, letter)) for letter in ALPHABET]
                self.assertEqual(sum(told), many, (history.rows, place))
                others = [count_with(history, ("not", place, letter)) for letter in ALPHABET]
                self.assertEqual([one + other for one, other in zip(told, others)], [many] * 26)

    def test_the_numbers_of_copies_add_up(self):
        for hidden, history in large_histories():
            many = count(history)
            for letter in "aebnrtz":
                told = [count_with(history, ("least", letter, number), ("most", letter, number))
                        for number in range(7)]
                self.assertEqual(sum(told), many, (history.rows, letter))
                for number in range(7):
                    self.assertEqual(count_with(history, ("most", letter, number)), sum(told[:number + 1]))
                    self.assertEqual(count_with(history, ("least", letter, number)), sum(told[number:]))

    def test_no_fact(self):
        for history in (History(LARGEST), sample_history(), NOTHING_LEFT):
            self.assertEqual(count_with(history), count(history))
        self.assertEqual(count_with(history=sample_history()), 7)

    def test_no_word_left(self):
        for fact in all_facts("abc", 3):
            self.assertEqual(count_with(NOTHING_LEFT, fact), 0)

    def test_four_facts_are_allowed(self):
        history = History(BOARD)
        self.assertEqual(count_with(history, *([("at", 0, "a")] * 4)), 9)
        self.assertEqual(count_with(history, ("at", 0, "a"), ("at", 1, "b"), ("at", 2, "c"), ("most", "a", 1)), 1)


class NumberErrorsTest(unittest.TestCase):
    def test_what_is_no_number(self):
        histories = [History(BOARD), sample_history(), NOTHING_LEFT, History(LARGEST),
                     History(BOARD, ("abc", "222")), History(LARGEST, ("abcdef", "111111"))]
        for history in histories:
            many = count(history)
            for number in NO_NUMBERS + [many, many + 1, -many - 1]:
                refuses_value(self, InvalidNumber, number, nth_word, history, number)
                refuses_value(self, InvalidNumber, number, nth_word, number=number, history=history)

    def test_the_greatest_number_is_allowed(self):
        for history in (History(BOARD), sample_history(), History(LARGEST), History(LARGEST, ("abcdef", "111111"))):
            many = count(history)
            self.assertTrue(history.fits(nth_word(history, many - 1)))
            refuses_value(self, InvalidNumber, many, nth_word, history, many)

    def test_no_number_is_left_if_no_word_is(self):
        for history in (NOTHING_LEFT, History(LARGEST, ("abcdef", "222221"))):
            for number in (0, 1, -1, len(history)):
                refuses_value(self, InvalidNumber, number, nth_word, history, number)

    def test_true_and_false_are_no_numbers(self):
        for number in (True, False):
            refuses_value(self, InvalidNumber, number, nth_word, History(BOARD), number)

    def test_what_is_no_word(self):
        for history in (History(BOARD), NOTHING_LEFT, History(BOARD, ("abc", "222"))):
            for word in NO_WORDS:
                refuses_value(self, InvalidWord, word, place_of, history, word)
                refuses_value(self, InvalidWord, word, place_of, word=word, history=history)

    def test_words_that_are_not_left(self):
        for letters, length, rows in chosen_cases()[::11]:
            history = History(Board(letters, length), *rows)
            left = words_that_fit(all_words(letters, length), rows)
            for word in all_words(letters, length)[:200]:
                if word not in left:
                    refuses_value(self, WordNotLeft, word, place_of, history, word)
                    refuses_value(self, WordNotLeft, word, place_of, word=word, history=history)

    def test_words_of_the_largest_board_that_are_not_left(self):
        history = History(LARGEST, ("abcdef", "111111"))
        for word in ("abcdef", "bcdefg", "zzzzzz", "badcff", "bacdfe"):
            refuses_value(self, WordNotLeft, word, place_of, history, word)
        refuses_value(self, InvalidWord, "bcdefA", place_of, history, "bcdefA")


class ErrorsTest(unittest.TestCase):
    def test_what_is_no_history(self):
        for history in no_histories(BOARD):
            refuses_value(self, NotAHistory, history, count, history)
            refuses_value(self, NotAHistory, history, count, history=history)
            refuses_value(self, NotAHistory, history, nth_word, history, 0)
            refuses_value(self, NotAHistory, history, nth_word, number=0, history=history)
            refuses_value(self, NotAHistory, history, place_of, history, "abc")
            refuses_value(self, NotAHistory, history, place_of, word="abc", history=history)
            refuses_value(self, NotAHistory, history, count_with, history)
            refuses_value(self, NotAHistory, history, count_with, history, ("at", 0, "a"))
            refuses_value(self, NotAHistory, history, count_with, history=history)

    def test_the_history_is_refused_first(self):
        for history in (None, "abc", True, BOARD, 3):
            for other in (None, -1, True, "abd", 10 ** 19):
                refuses_value(self, NotAHistory, history, nth_word, history, other)
                refuses_value(self, NotAHistory, history, nth_word, number=other, history=history)
                refuses_value(self, NotAHistory, history, place_of, history, other)
                refuses_value(self, NotAHistory, history, place_of, word=other, history=history)
                refuses_value(self, NotAHistory, history, count_with, history, other)
                refuses_value(self, NotAHistory, history, count_with, history, *([other] * 5))

    def test_facts_that_are_none(self):
        check_refused_facts(self, History(BOARD), count_with)

    def test_facts_are_refused_also_if_no_word_is_left(self):
        for fact in no_facts(BOARD):
            self.assertEqual(refused(self, InvalidFacts, count_with, NOTHING_LEFT, fact).index, 0)

    def test_facts_of_another_board(self):
        for letters, length, fact in [("abd", 3, ("at", 0, "c")), ("abc", 2, ("at", 2, "a")),
                                      ("abc", 2, ("least", "a", 3)), (ALPHABET, 6, ("at", 6, "a")),
                                      (ALPHABET, 6, ("most", "a", 7)), (ALPHABET, 1, ("not", 1, "a"))]:
            history = History(Board(letters, length))
            self.assertEqual(refused(self, InvalidFacts, count_with, history, fact).index, 0)


class UnchangedTest(unittest.TestCase):
    def test_no_call_changes_the_history_or_later_results(self):
        history = sample_history()

        def results():
            return [count(history), nth_word(history, 3), place_of(history, "bece"),
                    count_with(history, ("at", 1, "e"))]

        first = results()
        for call, wrong in [(nth_word, 7), (nth_word, None), (place_of, "abcd"), (place_of, "abc"),
                            (count_with, None), (count_with, ("at", 4, "a"))]:
            with self.assertRaises((InvalidNumber, InvalidWord, WordNotLeft, InvalidFacts)):
                call(history, wrong)
        self.assertEqual(results(), first)
        self.assertEqual(history, sample_history())

    def test_the_functions_are_defined_where_they_are_listed(self):
        for call in (counting.count, counting.nth_word, counting.place_of, counting.count_with):
            self.assertEqual(call.__module__, "guessmarks.counting")


if __name__ == "__main__":
    unittest.main()
