"""tried, tells, tells_word, parting and twins (points [2] to [5], [7]; interface, guessmarks/lists.py)."""

import unittest
from itertools import combinations, product
from random import Random

from guessmarks import lists
from guessmarks.boards import Board
from guessmarks.errors import InvalidGuesses, NotABoard
from guessmarks.lists import parting, tells, tells_word, tried, twins
from guessmarks.marking import marks
from tests.support import (ALPHABET, SMALL_BOARDS, all_words, check_refused_guesses, marks_by_definition, no_histories,
                           no_lists, refused, refuses_value, twenty_guesses)

BOARD = Board("abc", 3)
LARGEST = Board(ALPHABET, 6)

PAIR_BOARDS = [("ab", 1), ("ab", 2), ("ab", 3), ("bz", 3), ("abc", 1), ("abc", 2), ("abc", 3), ("abcd", 1), ("abcd", 2),
               ("abcd", 3)]


def told(guesses, word):
    """Return all marks of the guesses for a hidden word."""
    return tuple(marks_by_definition(guess, word) for guess in guesses)


def is_told(words, guesses, seen):
    """Tell whether words with the same marks of the guesses are all seen alike."""
    known = {}
    return all(known.setdefault(told(guesses, word), seen(word)) == seen(word) for word in words)


def tried_by_hand(letters, length, guesses):
    """Return what the guesses try, by the definition."""
    return (tuple("".join(sorted({guess[place] for guess in guesses})) for place in range(length)),
            tuple(max([0] + [guess.count(letter) for guess in guesses]) for letter in letters))


def chosen_lists(choose, words, many):
    """Return lists of 0 to 20 guesses, most of which leave letters untried."""
    chosen = []
    for _ in range(many):
        few = choose.sample(sorted(set("".join(words))), k=choose.randint(1, len(set("".join(words)))))
        pool = [word for word in words if set(word) <= set(few)]
        chosen.append(tuple(choose.choices(pool, k=choose.choice([0, 1, 1, 2, 2, 3, 4, 5, 8, 20]))))
    return chosen


def columns(choose, letters_of_places, many):
    """Return guesses that have at each place just these letters, in any order."""
    rows = []
    for letters in letters_of_places:
        column = list(letters) + choose.choices(letters, k=many - len(letters))
        choose.shuffle(column)
        rows.append(column)
    return tuple("".join(guess) for guess in zip(*rows))


class PairsTest(unittest.TestCase):
    def check_parting(self, board, guesses, others, wanted):
        """Check tells and parting; `wanted` tells whether the others are told."""
        self.assertIs(tells(board, guesses, others), wanted, (board, guesses, others))
        pair = parting(board, guesses, others)
        self.assertEqual(pair is None, wanted, (board, guesses, others))
        if pair is not None:
            self.check_pair(board, guesses, pair)
            self.assertTrue(any(marks(board, guess, pair[0]) != marks(board, guess, pair[1]) for guess in others))
        self.assertEqual(parting(board, guesses, others), pair)

    def check_twins(self, board, guesses, wanted):
        """Check tells_word and twins; `wanted` tells whether the word is told."""
        self.assertIs(tells_word(board, guesses), wanted, (board, guesses))
        pair = twins(board, guesses)
        self.assertEqual(pair is None, wanted, (board, guesses))
        if pair is not None:
            self.check_pair(board, guesses, pair)
        self.assertEqual(twins(board, guesses), pair)

    def check_pair(self, board, guesses, pair):
        """Check that this is a pair of different words with the same marks of all guesses."""
        self.assertEqual([type(pair), len(pair)], [tuple, 2])
        self.assertNotEqual(pair[0], pair[1])
        for guess in guesses:
            self.assertEqual(marks(board, guess, pair[0]), marks(board, guess, pair[1]), (board, guesses, pair))


class SmallBoardsTest(PairsTest):
    def test_each_list_of_up_to_two_guesses_against_each_guess(self):
        for letters, length in [("ab", 1), ("ab", 2), ("abc", 1), ("abc", 2), ("abcd", 1)]:
            board, words = Board(letters, length), all_words(letters, length)
            for guesses in [()] + [(word,) for word in words] + list(combinations(words, 2)):
                self.check_twins(board, guesses, is_told(words, guesses, str))
                for other in words:
                    wanted = is_told(words, guesses, lambda word: told((other,), word))
                    self.check_parting(board, guesses, (other,), wanted)

    def test_each_guess_against_each_guess(self):
        for letters, length in [("ab", 3), ("abc", 3), ("abcd", 2), ("ab", 4)]:
            board, words = Board(letters, length), all_words(letters, length)
            for guess in words:
                self.check_twins(board, (guess,), is_told(words, (guess,), str))
                for other in words:
                    wanted = is_told(words, (guess,), lambda word: told((other,), word))
                    self.check_parting(board, (guess,), (other,), wanted)

    def test_chosen_lists(self):
        choose = Random(41)
        for letters, length in PAIR_BOARDS + [("ab", 4), ("ab", 5), ("abc", 4), ("abcde", 2), ("abcde", 3)]:
            board, words = Board(letters, length), all_words(letters, length)
            for guesses, others in zip(chosen_lists(choose, words, 90), chosen_lists(choose, words, 90)):
                self.check_twins(board, guesses, is_told(words, guesses, str))
                self.check_parting(board, guesses, others, is_told(words, guesses, lambda word: told(others, word)))

    def test_untried_pairs_of_letters(self):
        # Each place leaves some two letters untried, so that rings and chains of every kind come.
        choose = Random(42)
        for letters, length in [("abc", 2), ("abc", 3), ("abcd", 2), ("abcd", 3), ("abc", 4), ("abcd", 4)]:
            board, words = Board(letters, length), all_words(letters, length)
            for _ in range(60 if length < 4 else 25):
                places = [[letter for letter in letters if letter not in pair]
                          for pair in choose.choices(list(combinations(letters, 2)), k=length)]
                guesses = columns(choose, places, choose.randint(len(letters) - 2, 4))
                others = tuple(choose.choices(words, k=2))
                self.check_twins(board, guesses, is_told(words, guesses, str))
                self.check_parting(board, guesses, others, is_told(words, guesses, lambda word: told(others, word)))

    def test_no_guess(self):
        for letters, length in PAIR_BOARDS:
            board, words = Board(letters, length), all_words(letters, length)
            self.check_twins(board, (), False)
            self.check_parting(board, (), (), True)
            for word in words:
                self.check_parting(board, (word,), (), True)
                self.check_parting(board, (), (word,), False)

    def test_a_list_tells_each_part_of_itself(self):
        choose = Random(43)
        for letters, length in PAIR_BOARDS:
            board, words = Board(letters, length), all_words(letters, length)
            for guesses in chosen_lists(choose, words, 40):
                self.check_parting(board, guesses, guesses, True)
                self.check_parting(board, guesses, guesses[::-1], True)
                self.check_parting(board, guesses, guesses[::2], True)
                self.check_parting(board, guesses, guesses[:1] * 20 if guesses else (), True)

    def test_guesses_given_twice_and_in_another_order(self):
        choose = Random(44)
        for letters, length in PAIR_BOARDS:
            board, words = Board(letters, length), all_words(letters, length)
            for guesses in chosen_lists(choose, words, 20):
                guesses = guesses[:10]
                self.assertEqual(tells_word(board, guesses * 2), tells_word(board, guesses))
                self.assertEqual(tells_word(board, guesses[::-1]), tells_word(board, guesses))
                for others in chosen_lists(choose, words, 4):
                    self.assertEqual(tells(board, guesses * 2, others), tells(board, guesses[::-1], others[::-1]))

    def test_telling_goes_on_from_list_to_list(self):
        choose = Random(45)
        for letters, length in [("abc", 2), ("abc", 3), ("abcd", 2)]:
            board, words = Board(letters, length), all_words(letters, length)
            some = chosen_lists(choose, words, 25)
            told_by = {(one, two): tells(board, one, two) for one in some for two in some}
            for one, two, three in product(some, repeat=3):
                if told_by[one, two] and told_by[two, three]:
                    self.assertTrue(told_by[one, three])


class LargeBoardsTest(PairsTest):
    def test_words_of_one_letter_each(self):
        for letters in ("ab", "abc", "aeiou", ALPHABET[:12], ALPHABET[-19:], ALPHABET[:20]):
            for length in range(1, 7):
                board = Board(letters, length)
                guesses = tuple(letter * length for letter in letters)
                self.check_twins(board, guesses, True)
                self.check_parting(board, guesses, tuple(twenty_words(board)), True)
                # The marks of all other letters tell the last one, but not the last two.
                self.check_twins(board, guesses[1:], True)
                self.check_twins(board, guesses[:-1], True)
                self.check_parting(board, guesses[1:], guesses[:1], True)
                self.check_twins(board, guesses[2:], False)
                self.check_twins(board, guesses[1:-1], False)
                self.check_parting(board, guesses[1:-1], guesses[:1], False)
                self.check_parting(board, guesses[1:-1], guesses[1:-1][::-1], True)

    def test_words_of_one_letter_each_on_boards_with_more_letters_than_guesses(self):
        for many in (21, 22, 23, 26):
            for length in range(1, 7):
                board = Board(ALPHABET[:many], length)
                guesses = tuple(letter * length for letter in ALPHABET[:20])
                self.check_twins(board, guesses, many == 21)
                self.check_parting(board, guesses, (ALPHABET[20] * length,), many == 21)
                self.check_parting(board, guesses, guesses[5:], True)

    def test_twenty_guesses_of_different_letters(self):
        for many in range(2, 27):
            for length in range(1, 7):
                board = Board(ALPHABET[:many], length)
                guesses = tuple(shifted(board, start) for start in range(min(20, many)))
                self.check_twins(board, guesses, many <= 21)
                self.check_parting(board, guesses, guesses, True)
                if many <= 6:
                    # Each letter at each place tells how many copies there are.
                    self.check_parting(board, guesses, tuple(letter * length for letter in board.letters), True)

    def test_letters_that_are_exchanged_everywhere(self):
        choose = Random(46)
        for letters, length in [(ALPHABET, 6), (ALPHABET, 5), (ALPHABET[:9], 6), (ALPHABET, 1)]:
            board = Board(letters, length)
            for _ in range(20):
                one, two = choose.sample(letters, k=2)
                others = [letter for letter in letters if letter not in (one, two)]
                guesses = tuple("".join(choose.choices(others, k=length)) for _ in range(20))
                # Neither letter is tried anywhere, so no guess tells one from the other.
                self.check_twins(board, guesses, False)
                self.check_parting(board, guesses, (one * length,), False)
                self.check_parting(board, guesses, tuple(letter * length for letter in (two, one)), False)
                self.check_parting(board, guesses, guesses[:7], True)

    def test_any_lists_on_the_largest_boards(self):
        choose = Random(47)
        for many, length in [(26, 6), (26, 6), (26, 6), (25, 5), (26, 4), (24, 3), (23, 2), (26, 1)]:
            board = Board(ALPHABET[:many], length)
            for few in (2, 3, 6, 13, many):
                for size in (1, 2, 5, 20):
                    guesses = tuple("".join(choose.choices(board.letters[:few], k=length)) for _ in range(size))
                    others = tuple("".join(choose.choices(board.letters[:few + 1], k=length)) for _ in range(size))
                    self.check_twins(board, guesses, False)
                    self.check_parting(board, guesses, others, parting(board, guesses, others) is None)
                    self.check_parting(board, guesses + others[:20 - size], others[:20 - size], True)

    def test_other_letters_that_are_told_stand_for_one(self):
        # Letters that words of one letter tell do not differ from one such letter of a smaller board.
        choose = Random(48)
        for length, many in [(1, 20), (2, 60), (3, 60), (4, 15)]:
            small, words = Board("abcd", length), all_words("abcd", length)
            large = Board(ALPHABET[:18], length)
            more = tuple(letter * length for letter in ALPHABET[3:18])
            for guesses, others in zip(chosen_lists(choose, words, many), chosen_lists(choose, words, many)):
                guesses, others = guesses[:5], others[:5]
                few = guesses + ("d" * length,)
                self.check_twins(large, guesses + more, is_told(words, few, str))
                self.check_parting(large, guesses + more, others, is_told(words, few, lambda word: told(others, word)))

    def test_rings(self):
        # At each place the letter is one of two neighbours in a ring, and all of them can move on by one.
        choose = Random(49)
        for length in range(2, 7):
            for many in range(length, 22):
                letters = ALPHABET[:many]
                board = Board(letters, length)
                ring = [{letters[place], letters[(place + 1) % length]} for place in range(length)]
                if many == 2 and length == 2:
                    continue
                places = [[letter for letter in letters if letter not in pair] for pair in ring]
                if not all(places):
                    continue
                guesses = columns(choose, places, 20)
                self.check_twins(board, guesses, False)
                self.check_parting(board, guesses, (letters[:length],), False)
                self.check_parting(board, guesses, (letters[0] * length,), False)

    def test_chains(self):
        # At each place the letter is one of two neighbours in a line. Two words with the same marks differ by some
        # steps along the line, and both have all copies of both ends of these steps that are tried.
        choose = Random(50)
        results = set()
        for length in (2, 3, 4, 4, 5, 5, 5, 6, 6, 6):
            for _ in range(25):
                line = choose.sample(ALPHABET[:choose.choice([length + 1, 12, 25])], k=length + 1)
                most = {letter: choose.choice([2, 2, 3, 3, 4, 5] if length > 4 else [1, 2, 3]) for letter in line}
                guesses = guesses_of_line(line, most, "z")
                copies = {letter: max(guess.count(letter) for guess in guesses) for letter in line}
                costs = [copies[line[one]] + copies[line[two]] + two - one
                         for one, two in combinations(range(length + 1), 2)]
                board = Board("".join(sorted(line + ["z"])), length)
                self.check_twins(board, guesses, min(costs) > length)
                results.add((length, min(costs) > length))
        self.assertTrue({(length, told) for length in (4, 5, 6) for told in (True, False)} <= results)

    def test_chains_that_only_some_guesses_see(self):
        choose = Random(51)
        for length, times in [(2, 40), (3, 40), (4, 15)]:
            letters = ALPHABET[:length + 1] + "z"
            board, words = Board(letters, length), all_words(letters, length)
            for _ in range(times):
                line = choose.sample(letters[:-1], k=length + 1)
                guesses = guesses_of_line(line, {letter: choose.choice([1, 2, 3]) for letter in line}, "z")
                others = tuple(choose.choices(words, k=choose.choice([1, 1, 2])))
                self.check_parting(board, guesses, others, is_told(words, guesses, lambda word: told(others, word)))

    def test_chains_by_hand(self):
        # A step between neighbours leaves five places, which are enough for 2 and 3 copies, but not for 3 and 3.
        line = "abcdefg"
        board = Board("abcdefgz", 6)
        self.check_twins(board, guesses_of_line(line, dict.fromkeys(line, 3), "z"), True)
        self.check_twins(board, guesses_of_line(line, dict.fromkeys(line, 2), "z"), False)
        for letter in line:
            self.check_twins(board, guesses_of_line(line, {**dict.fromkeys(line, 3), letter: 2}, "z"), False)
            self.check_twins(board, guesses_of_line(line, {**dict.fromkeys(line, 4), letter: 2}, "z"), True)

    def test_chains_of_several_steps_on_both_sides_of_the_place_that_is_seen(self):
        # The other guess sees whether d or e stands at place 3. The chain from b over c and d to e takes up three
        # places, and leaves enough for one copy of b and two of e; a chain with any other ends is too expensive.
        line = "abcdefg"
        board = Board("abcdefgz", 6)
        for turned in (1, -1):
            for most, wanted in [((5, 1, 4, 4, 2, 4, 5), False), ((5, 2, 4, 4, 2, 4, 5), True),
                                 ((5, 1, 4, 4, 3, 4, 5), True), ((5, 1, 4, 4, 4, 1, 5), False),
                                 ((5, 1, 4, 4, 4, 2, 5), True), ((5, 1, 4, 2, 2, 4, 5), False)]:
                guesses = [guess[::turned] for guess in guesses_of_line(line, dict(zip(line, most)), "z")]
                self.check_parting(board, tuple(guesses), ("zzzdzz"[::turned],), wanted)
                self.check_parting(board, tuple(guesses), ("zzzezz"[::turned],), wanted)

    def test_copies_that_are_asked_above_the_tried_number(self):
        wanted = {}
        for letters in ("abc", "abcd", "abcde", ALPHABET[:12], ALPHABET):
            board = Board(letters, 5)
            # Two letters that no guess names are enough: how many there are more makes no difference.
            words = all_words(letters[:5], 5) if len(letters) <= 5 else ()
            for number, asked in product(range(6), repeat=2):
                guesses = ("a" * number + "b" * (5 - number), "ccccc")
                others = ("a" * asked + "c" * (5 - asked), "c" * (5 - asked) + "a" * asked)
                if words:
                    wanted[number, asked] = is_told(words, guesses, lambda word: told(others, word))
                self.check_parting(board, guesses, others, wanted[number, asked])

    def test_copies_by_hand(self):
        board = Board("abcd", 4)
        self.check_parting(board, ("cccc", "dddd"), ("aaaa",), False)
        self.check_parting(board, ("aaaa", "dddd"), ("bbbb",), False)
        self.check_parting(board, ("aaaa", "bbbb"), ("abab",), True)
        self.check_parting(board, ("aaaa", "bbbb"), ("cccc",), False)
        self.check_parting(board, ("aaaa", "bbbb", "cccc"), ("dddd",), True)
        self.check_parting(LARGEST, ("abcdef",), ("aaaaaa",), False)
        self.check_parting(LARGEST, ("abcdef",), ("azzzzz",), False)
        self.check_parting(LARGEST, ("aaaaaa",), ("aaaaaa", "aaaaaa"), True)
        self.check_parting(LARGEST, ("aaaaaa", "bbbbbb"), ("ababab", "bababa", "aabbab"), True)
        self.check_parting(LARGEST, ("abcdef", "bcdefa", "cdefab", "defabc", "efabcd", "fabcde"),
                           ("aabbcc", "ffffff", "abcabc"), True)
        self.check_parting(LARGEST, ("abcdef", "bcdefa", "cdefab", "defabc", "efabcd"), ("aabbcc",), False)


def twenty_words(board):
    """Return up to twenty words from all over the board."""
    return [board.word(board.size * step // 20) for step in range(20)]


def shifted(board, start):
    """Return the word whose letters follow each other in the alphabet, from this one on."""
    return "".join(board.letters[(start + place) % len(board.letters)] for place in range(board.length))


def guesses_of_line(line, most, filler):
    """Return guesses that leave just two neighbours of the line untried at each place, and try the filler everywhere.

    None of them has more copies of a letter of the line than `most` tells.
    """
    length = len(line) - 1
    guesses = [filler * length]
    for at, letter in enumerate(line):
        free = [place for place in range(length) if place not in (at - 1, at)]
        for start in range(0, len(free), most[letter]):
            chosen = free[start:start + most[letter]]
            guesses.append("".join(letter if place in chosen else filler for place in range(length)))
    return tuple(guesses)


class TriedTest(unittest.TestCase):
    def test_each_single_guess_and_each_pair(self):
        for letters, length in [("ab", 1), ("ab", 2), ("ab", 3), ("abc", 2), ("abcd", 2)]:
            board, words = Board(letters, length), all_words(letters, length)
            for guesses in [()] + [(word,) for word in words] + list(product(words, repeat=2)):
                self.assertEqual(tried(board, guesses), tried_by_hand(letters, length, guesses))

    def test_chosen_lists(self):
        choose = Random(52)
        for letters, length in SMALL_BOARDS:
            words = all_words(letters, length)
            for guesses in chosen_lists(choose, words, 20):
                self.assertEqual(tried(Board(letters, length), guesses), tried_by_hand(letters, length, guesses))

    def test_the_largest_board(self):
        guesses = tuple(twenty_guesses())
        self.assertEqual(tried(LARGEST, guesses), tried_by_hand(ALPHABET, 6, guesses))
        letters, numbers = tried(LARGEST, ("zzzzzz", "abcabc", "zabzab"))
        self.assertEqual(letters, ("az", "abz", "bcz", "az", "abz", "bcz"))
        self.assertEqual(numbers, (2, 2, 2) + (0,) * 22 + (6,))

    def test_no_guess(self):
        self.assertEqual(tried(BOARD, ()), (("", "", ""), (0, 0, 0)))
        self.assertEqual(tried(Board("ab", 1), ()), (("",), (0, 0)))

    def test_the_numbers_are_those_of_one_guess(self):
        self.assertEqual(tried(Board("abc", 3), ("aba", "bcc", "cab")), (("abc", "abc", "abc"), (2, 1, 2)))

    def test_the_kinds_of_the_results(self):
        for guesses in [(), ("abc",), ("abc", "cca")]:
            found = tried(BOARD, guesses)
            self.assertEqual([type(found), len(found)], [tuple, 2])
            self.assertEqual([type(part) for part in found], [tuple, tuple])
            self.assertEqual([type(part) for part in found[0] + found[1]], [str] * 3 + [int] * 3)


class ArgumentsTest(unittest.TestCase):
    def test_arguments_by_name(self):
        board = Board("abc", 2)
        self.assertEqual(tried(board=board, guesses=("ab", "ca")), (("ac", "ab"), (1, 1, 1)))
        self.assertEqual(tried(guesses=("ab", "ca"), board=board), (("ac", "ab"), (1, 1, 1)))
        self.assertIs(tells(other_guesses=("aa",), board=board, guesses=("ab",)), False)
        self.assertIs(tells(board, ("aa", "bb"), other_guesses=("cc",)), True)
        self.assertIs(tells_word(guesses=("aa", "bb"), board=board), True)
        self.assertEqual(parting(guesses=("ab",), other_guesses=("aa",), board=board), parting(board, ("ab",), ("aa",)))
        self.assertIsNone(twins(guesses=("ab", "bc"), board=board))

    def test_what_is_no_board(self):
        for board in [board for board in no_histories(BOARD) if not isinstance(board, Board)]:
            for guesses in ((), ("abc",), None, ["abc"]):
                for call in (tried, tells_word, twins):
                    refuses_value(self, NotABoard, board, call, board, guesses)
                    refuses_value(self, NotABoard, board, call, guesses=guesses, board=board)
                for call in (tells, parting):
                    refuses_value(self, NotABoard, board, call, board, guesses, guesses)
                    refuses_value(self, NotABoard, board, call, other_guesses=(), guesses=guesses, board=board)

    def test_what_is_no_list_of_guesses(self):
        for call in (tried, tells_word, twins):
            check_refused_guesses(self, lambda guesses: call(BOARD, guesses))
        for call in (tells, parting):
            check_refused_guesses(self, lambda guesses: call(BOARD, guesses, ("abc",)))
            check_refused_guesses(self, lambda guesses: call(BOARD, ("abc",), guesses))
            check_refused_guesses(self, lambda guesses: call(BOARD, (), guesses))

    def test_the_first_list_is_refused_first(self):
        for call in (tells, parting):
            for other in no_lists(3) + [("abc",) * 21, (None,), ("abd", "abc")]:
                error = refused(self, InvalidGuesses, call, BOARD, ("abc", "abc", "abd"), other)
                self.assertEqual(error.index, 2)
                self.assertIsNone(refused(self, InvalidGuesses, call, BOARD, ["abc"], other).index)
            self.assertIsNone(refused(self, InvalidGuesses, call, BOARD, ("abc",) * 21, ("abd",)).index)
            self.assertEqual(refused(self, InvalidGuesses, call, BOARD, ("abc",), ("abc", "abd")).index, 1)
            self.assertEqual(refused(self, InvalidGuesses, call, BOARD, (None,), ("abc",) * 21).index, 0)

    def test_an_empty_list_and_twenty_guesses_are_allowed(self):
        for guesses in ((), ("abc",) * 20):
            for call in (tried, tells_word, twins):
                call(BOARD, guesses)
            self.assertIs(tells(BOARD, guesses, ()), True)
            self.assertIsNone(parting(BOARD, guesses, ()))
            self.assertIs(tells(BOARD, ("abc",), guesses), True)

    def test_no_call_changes_later_results(self):
        first = [tried(BOARD, ("abc",)), twins(BOARD, ("abc",)), parting(BOARD, ("abc",), ("aaa",))]
        for wrong in (None, ("abd",), ("abc",) * 21):
            refused(self, InvalidGuesses, twins, BOARD, wrong)
            refused(self, InvalidGuesses, parting, BOARD, ("abc",), wrong)
        parting(LARGEST, tuple(twenty_guesses()), ("zzzzzz",))
        self.assertEqual([tried(BOARD, ("abc",)), twins(BOARD, ("abc",)), parting(BOARD, ("abc",), ("aaa",))], first)

    def test_the_functions_are_defined_where_they_are_listed(self):
        for call in (tried, tells, tells_word, parting, twins):
            self.assertEqual(call.__module__, "guessmarks.lists")
            self.assertIs(getattr(lists, call.__name__), call)


if __name__ == "__main__":
    unittest.main()
