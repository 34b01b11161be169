"""answers, worst_answer and best_guess (points [2] to [5], [7], [8]; interface, guessmarks/guessing.py)."""

import unittest
from random import Random

from guessmarks import guessing
from guessmarks.boards import Board
from guessmarks.counting import count, nth_word
from guessmarks.errors import InvalidGuesses, InvalidWord, NotAHistory, NoWord
from guessmarks.guessing import answers, best_guess, worst_answer
from guessmarks.histories import History
from guessmarks.samples import sample_history
from tests.patterns import count_of_patterns
from tests.support import (ALPHABET, SMALL_BOARDS, all_rows, all_words, check_refused_guesses, chosen_cases,
                           counted_answers, marked, marks_by_definition, no_histories, no_words, refused,
                           refuses_value, some_rows, twenty_guesses, words_that_fit)

BOARD = Board("abc", 3)
LARGEST = Board(ALPHABET, 6)
NOTHING_LEFT = History(BOARD, ("abc", "222"), ("aaa", "000"))


def large_histories():
    """Return histories of large boards, each with a word that is left."""
    choose = Random(31)
    histories = [History(LARGEST), History(Board("abcdefgh", 5)), History(Board(ALPHABET, 5))]
    for letters, length in [(ALPHABET, 6), (ALPHABET, 5), ("abcdefgh", 6), ("abcdefghijklmn", 5), ("abcd", 6)]:
        board = Board(letters, length)
        for many in (1, 2, 3, 6, 20):
            hidden = "".join(choose.choices(letters[:6] + letters[-1], k=length))
            histories.append(History(board, *some_rows(choose, letters[:7], length, many, hidden)))
    for hidden in ("letter", "banana", "zzzzzz", "quartz"):
        histories.append(marked(LARGEST, hidden, "aabbcc"))
        histories.append(marked(LARGEST, hidden, "zyxwvu"))
        histories.append(marked(LARGEST, hidden, *twenty_guesses()))
    return histories


def best_of_words(guesses, left):
    """Return the best guess by the definition, for a list of words that are left."""
    best = None
    for place, guess in enumerate(guesses):
        worst = max(number for told, number in counted_answers(guess, left))
        rank = (worst, guess not in left, place)
        if best is None or rank < best:
            best = rank
    return guesses[best[2]]


class AnswersTest(unittest.TestCase):
    def check_history(self, history, left, guesses):
        """Compare answers and worst_answer of the guesses with the list of the words that are left."""
        for guess in guesses:
            wanted = counted_answers(guess, left)
            self.assertEqual(answers(history, guess), wanted, (history.rows, guess))
            if left:
                most = max(number for told, number in wanted)
                first = [pair for pair in wanted if pair[1] == most][0]
                self.assertEqual(worst_answer(history, guess), first, (history.rows, guess))

    def test_each_guess_without_rows(self):
        for letters, length in SMALL_BOARDS + [("abcde", 3), ("ab", 6), ("abcdefghij", 2)]:
            words = all_words(letters, length)
            self.check_history(History(Board(letters, length)), words, words)

    def test_each_guess_behind_each_row(self):
        for letters, length in [("ab", 1), ("ab", 2), ("ab", 3), ("abc", 1), ("abc", 2), ("abcd", 1)]:
            words = all_words(letters, length)
            for row in all_rows(letters, length):
                self.check_history(History(Board(letters, length), row), words_that_fit(words, (row,)), words)

    def test_some_guesses_behind_several_rows(self):
        choose = Random(32)
        for letters, length, rows in chosen_cases():
            words = all_words(letters, length)
            guesses = choose.sample(words, k=min(4, len(words))) + [guess for guess, told in rows[:2]]
            self.check_history(History(Board(letters, length), *rows), words_that_fit(words, rows), guesses)

    def test_twenty_rows(self):
        choose = Random(33)
        for letters, length in [("abc", 3), ("abcd", 4), ("bz", 4)]:
            words = all_words(letters, length)
            for few in (1, 2, 3):
                hidden = choose.choice(words)
                rows = tuple(some_rows(choose, letters[:few], length, 20, hidden))
                self.check_history(History(Board(letters, length), *rows), words_that_fit(words, rows), words[:60])

    def test_the_numbers_add_up_on_large_boards(self):
        choose = Random(34)
        for history in large_histories():
            letters, length = history.board.letters, history.board.length
            for few in (letters[:3], letters[:8], letters):
                guess = "".join(choose.choices(few, k=length))
                found = answers(history, guess)
                self.assertEqual(sum(number for told, number in found), count(history), (history.rows, guess))
                self.assertEqual(list(found), sorted(found))
                self.assertEqual(len({told for told, number in found}), len(found))
                for told, number in choose.sample(found, k=min(12, len(found))):
                    behind = History(history.board, *history.rows[-19:], (guess, told))
                    if len(history) < 20:
                        self.assertEqual(count(behind), number, (history.rows, guess, told))
                    self.assertGreater(number, 0)
                self.check_the_worst(history, guess, found)

    def check_the_worst(self, history, guess, found):
        """Check worst_answer against the answers of the guess."""
        most = max(number for told, number in found)
        self.assertEqual(worst_answer(history, guess), min(pair for pair in found if pair[1] == most))

    def test_each_marks_of_a_word_that_is_left(self):
        for history in large_histories():
            many = count(history)
            for number in sorted({0, many // 3, many // 2, many - 1}):
                word = nth_word(history, number)
                for guess in (word, word[::-1], word[1:] + word[:1], word[0] * len(word)):
                    told = marks_by_definition(guess, word)
                    self.assertGreater(dict(answers(history, guess)).get(told, 0), 0)

    def test_by_hand_on_the_largest_board(self):
        history = History(LARGEST)
        found = dict(answers(history, "abcdef"))
        # 3 ** 6 strings of marks, and five marks 2 with one mark 1 do not come.
        self.assertEqual(len(found), 729 - 6)
        for told, number in [("222222", 1), ("222220", 25), ("222200", 24 ** 2), ("000000", 20 ** 6),
                             ("111111", 265), ("200000", 21 ** 5), ("222211", 1)]:
            self.assertEqual(found[told], number, told)
        self.assertNotIn("222221", found)
        self.assertEqual(worst_answer(history, "abcdef"), ("000000", 20 ** 6))
        same = answers(history, "zzzzzz")
        self.assertEqual(len(same), 64)
        for told, number in same:
            self.assertEqual(number, 25 ** told.count("0"))
            self.assertNotIn("1", told)
        self.assertEqual(worst_answer(history, "zzzzzz"), ("000000", 25 ** 6))

    def test_few_letters_on_the_largest_board(self):
        choose = Random(35)
        for named in ("ab", "xz", "abc", "mno"):
            hidden = "".join(choose.choices(named + "q", k=6))
            rows = some_rows(choose, named, 6, 2, hidden)
            guess = "".join(choose.choices(named, k=6))
            for told, number in answers(History(LARGEST, *rows), guess):
                self.assertEqual(count_of_patterns(LARGEST, rows + [(guess, told)]), number, (rows, guess, told))

    def test_no_word_left(self):
        for history in (NOTHING_LEFT, History(LARGEST, ("abcdef", "222221")), History(LARGEST, ("aabbcc", "010000"))):
            for number in (0, 5, history.board.size - 1):
                found = answers(history, history.board.word(number))
                self.assertEqual(found, ())
                self.assertIs(type(found), tuple)

    def test_one_word_left(self):
        history = History(LARGEST, ("abcdef", "222222"))
        self.assertEqual(answers(history, "fedcba"), (("111111", 1),))
        self.assertEqual(worst_answer(history, "aaaaaa"), ("200000", 1))
        self.assertEqual(best_guess(history, ("aaaaaa", "abcdef", "fedcba")), "abcdef")

    def test_the_kinds_of_the_results(self):
        for history, guess in [(sample_history(), "bece"), (History(LARGEST), "abcabc")]:
            found = answers(history, guess)
            self.assertIs(type(found), tuple)
            for pair in found + (worst_answer(history, guess),):
                self.assertEqual([type(pair), len(pair)] + [type(part) for part in pair], [tuple, 2, str, int])

    def test_several_greatest_numbers(self):
        self.assertEqual(answers(History(Board("ab", 1)), "a"), (("0", 1), ("2", 1)))
        self.assertEqual(worst_answer(History(Board("ab", 1)), "a"), ("0", 1))
        self.assertEqual(worst_answer(History(Board("ab", 2)), "ab"), ("02", 1))

    def test_arguments_by_name(self):
        for call, wanted in [(answers, (("0000", 7),)), (worst_answer, ("0000", 7))]:
            self.assertEqual(call(history=sample_history(), guess="aaaa"), wanted)
            self.assertEqual(call(guess="aaaa", history=sample_history()), wanted)
            self.assertEqual(call(sample_history(), guess="aaaa"), wanted)


class BestGuessTest(unittest.TestCase):
    def test_all_pairs_of_guesses_of_a_tiny_board(self):
        words = all_words("ab", 2)
        for row in [()] + [(row,) for row in all_rows("ab", 2)]:
            left = words_that_fit(words, row)
            if left:
                for one in words:
                    for two in words:
                        self.assertEqual(best_guess(History(Board("ab", 2), *row), (one, two)),
                                         best_of_words((one, two), left), (row, one, two))

    def test_chosen_lists(self):
        choose = Random(36)
        for letters, length, rows in chosen_cases():
            words = all_words(letters, length)
            left = words_that_fit(words, rows)
            if left:
                history = History(Board(letters, length), *rows)
                for many in (1, 2, 3, 5, 20):
                    pool = choose.choice([words, words[:3], left + words[:2]])
                    guesses = tuple(choose.choices(pool, k=many))
                    self.assertEqual(best_guess(history, guesses), best_of_words(guesses, left), (rows, guesses))

    def test_a_guess_that_is_left_comes_first_among_equal_ones(self):
        history = History(BOARD, ("aaa", "000"), ("bbb", "200"))
        self.assertEqual(answers(history, "bcc"), (("222", 1),))
        self.assertEqual(best_guess(history, ("aaa", "bbb", "bcc", "ccc")), "bcc")
        self.assertEqual(best_guess(history, ("bbb", "aaa", "ccc")), "bbb")
        self.assertEqual(best_guess(history, ("ccc", "aaa", "bbb")), "ccc")

    def test_a_better_guess_comes_before_one_that_is_left(self):
        # The words ab, ac, ad and ae are left; bc is not, but its worst answer leaves only two of them.
        history = History(Board("abcde", 2), ("aa", "20"))
        self.assertEqual([worst_answer(history, guess) for guess in ("ab", "bc", "bb")],
                         [("20", 3), ("00", 2), ("00", 3)])
        self.assertEqual(best_guess(history, ("ab", "bc")), "bc")
        self.assertEqual(best_guess(history, ("bc", "ab")), "bc")
        self.assertEqual(best_guess(history, ("bb", "ab", "ac")), "ab")
        self.assertEqual(best_guess(history, ("ee", "bb")), "ee")

    def test_guesses_given_twice_and_single_guesses(self):
        history = sample_history()
        for guess in ("aaaa", "bece", "dddd"):
            for many in (1, 2, 20):
                self.assertEqual(best_guess(history, (guess,) * many), guess)
        self.assertEqual(best_guess(history, ("aaaa", "bece", "aaaa", "bece")), "bece")

    def test_twenty_guesses_on_the_largest_board(self):
        guesses = tuple(twenty_guesses())
        for history in (History(LARGEST), marked(LARGEST, "letter", "banana"), marked(LARGEST, "quartz", "zyxwvu")):
            best = best_guess(history, guesses)
            numbers = [worst_answer(history, guess)[1] for guess in guesses]
            ranks = [(number, not history.fits(guess), place)
                     for place, (number, guess) in enumerate(zip(numbers, guesses))]
            self.assertEqual(best, guesses[min(ranks)[2]])

    def test_arguments_by_name(self):
        guesses = ("aaaa", "aece", "bece")
        self.assertEqual(best_guess(history=sample_history(), guesses=guesses), "bece")
        self.assertEqual(best_guess(guesses=guesses, history=sample_history()), "bece")


class ErrorsTest(unittest.TestCase):
    def test_what_is_no_history(self):
        for history in no_histories(BOARD):
            for call, other in [(answers, "abc"), (worst_answer, "abc"), (best_guess, ("abc",)),
                                (answers, None), (worst_answer, None), (best_guess, None), (best_guess, ())]:
                refuses_value(self, NotAHistory, history, call, history, other)
            refuses_value(self, NotAHistory, history, answers, guess="abc", history=history)
            refuses_value(self, NotAHistory, history, best_guess, guesses=("abc",), history=history)

    def test_what_is_no_word(self):
        for history in (History(BOARD), History(BOARD, ("abc", "222")), NOTHING_LEFT):
            for guess in no_words(3):
                for call in (answers, worst_answer):
                    refuses_value(self, InvalidWord, guess, call, history, guess)
                    refuses_value(self, InvalidWord, guess, call, guess=guess, history=history)

    def test_what_is_no_list_of_guesses(self):
        for history in (History(BOARD), NOTHING_LEFT):
            check_refused_guesses(self, lambda guesses: best_guess(history, guesses))
            self.assertIsNone(refused(self, InvalidGuesses, best_guess, history, ()).index)
            self.assertIsNone(refused(self, InvalidGuesses, best_guess, guesses=(), history=history).index)

    def test_no_word_left_comes_last(self):
        for history in (NOTHING_LEFT, History(BOARD, ("abc", "221"))):
            for guess in ("abc", "aaa", "ccc"):
                refused(self, NoWord, worst_answer, history, guess)
                refused(self, NoWord, best_guess, history, (guess,))
                refused(self, NoWord, best_guess, history, (guess,) * 20)
        refused(self, NoWord, worst_answer, History(LARGEST, ("abcdef", "222221")), "zzzzzz")

    def test_words_of_another_board(self):
        for guess in ("ab", "abcd", "abd"):
            refuses_value(self, InvalidWord, guess, answers, History(BOARD), guess)
            self.assertEqual(refused(self, InvalidGuesses, best_guess, History(BOARD), ("abc", guess)).index, 1)

    def test_no_call_changes_later_results(self):
        history = sample_history()
        first = [answers(history, "bece"), worst_answer(history, "aaaa"), best_guess(history, ("aaaa", "bece"))]
        for call, wrong in [(answers, None), (worst_answer, "abc"), (best_guess, ()), (best_guess, ("abc",))]:
            with self.assertRaises((InvalidWord, InvalidGuesses)):
                call(history, wrong)
        self.assertEqual([answers(history, "bece"), worst_answer(history, "aaaa"),
                          best_guess(history, ("aaaa", "bece"))], first)
        self.assertEqual(history, sample_history())

    def test_the_functions_are_defined_where_they_are_listed(self):
        for call in (answers, worst_answer, best_guess):
            self.assertEqual(call.__module__, "guessmarks.guessing")
            self.assertIs(getattr(guessing, call.__name__), call)


if __name__ == "__main__":
    unittest.main()
