"""holds (points [2], [3], [5] to [10]; interface, guessmarks/checker.py)."""

import unittest
from itertools import combinations, permutations, product
from random import Random

from guessmarks import checker
from guessmarks.boards import Board
from guessmarks.checker import holds
from guessmarks.histories import History
from guessmarks.marking import marks
from tests.support import (ALPHABET, Agreeing, Plain, Raising, all_facts, all_rows, all_words, has_fact,
                           marks_by_definition, nested, no_facts, no_words, some_rows, strange_objects, words_that_fit)

BOARD = Board("abc", 3)

OTHER_OBJECTS = strange_objects() + [0, 1, 2, -1, 10 ** 19, "", "a", "abc", "aab", "possible", "impossible", ("abc",),
                                     ["abc"], ("abc", "abd"), [("row", 0)], (("row", 0),), Agreeing(), Raising(), BOARD,
                                     History(BOARD), nested(15), nested(3)]


class Bounds:
    """The raw bounds in the words of point [10]."""

    def __init__(self, letters, length, rows, facts):
        self.letters, self.length, self.rows, self.facts = letters, length, rows, facts

    def allowed(self, place, letter):
        """Tell whether the letter is allowed at the place."""
        for guess, told in self.rows:
            if guess[place] == letter and told[place] != "2" or guess[place] != letter and told[place] == "2":
                return False
        for kind, first, second in self.facts:
            if kind == "at" and first == place and second != letter or (kind, first, second) == ("not", place, letter):
                return False
        return True

    def least(self, letter):
        """Return the raw least number."""
        numbers = [0] + [fact[2] for fact in self.facts if fact[:2] == ("least", letter)]
        return max(numbers + [self.found(row, letter) for row in self.rows])

    def greatest(self, letter):
        """Return the raw greatest number."""
        numbers = [self.length] + [fact[2] for fact in self.facts if fact[:2] == ("most", letter)]
        return min(numbers + [self.found(row, letter) for row in self.rows if (letter, "0") in zip(*row)])

    def found(self, row, letter):
        """Return how many copies of the letter are marked 1 or 2 in the row."""
        return len([mark for guessed, mark in zip(*row) if guessed == letter and mark in ("1", "2")])

    def shows(self, paper):
        """Tell whether a paper of the right form shows that there is no word."""
        kind, named = paper
        if kind == "row":
            if not 0 <= named < len(self.rows):
                return False
            guess, told = self.rows[named]
            return any(guess[one] == guess[two] and told[one] == "0" and told[two] == "1"
                       for one, two in combinations(range(self.length), 2))
        if kind == "letter":
            return named in list(self.letters) and self.least(named) > self.greatest(named)
        if kind == "letters":
            if named == "" or sorted(set(named)) != list(named) or not set(named) <= set(self.letters):
                return False
            places = [place for place in range(self.length) if any(self.allowed(place, letter) for letter in named)]
            return sum(self.least(letter) for letter in named) > len(places)
        if not named or list(named) != sorted(set(named)) or not set(named) <= set(range(self.length)):
            return False
        letters = [letter for letter in self.letters if any(self.allowed(place, letter) for place in named)]
        return sum(self.greatest(letter) for letter in letters) < len(named)


def all_papers(letters, length, many):
    """Return papers of the four forms, and papers near to them: other places, letters twice, another order."""
    papers = [("row", place) for place in range(-2, many + 2)]
    papers += [("letter", letter) for letter in list(letters) + ["", "z", letters, letters[:2]]]
    for number in range(4):
        papers += [("letters", "".join(chosen)) for chosen in product(letters, repeat=min(number, len(letters)))]
        papers += [("places", chosen) for chosen in product(range(-1, length + 1), repeat=min(number, length))]
    return papers + [("letters", letters + "z"), ("letters", letters.upper()), ("places", tuple(range(length + 1)))]


def impossible_cases():
    """Return (letters, length, rows, facts), with a word or without one."""
    choose = Random(81)
    cases = []
    for letters, length in [("ab", 1), ("ab", 2)]:
        rows, facts = all_rows(letters, length), all_facts(letters, length)
        cases += [(letters, length, (), ()), *[(letters, length, (row,), ()) for row in rows]]
        cases += [(letters, length, (row,), (fact,)) for row in rows[::2] for fact in facts]
        cases += [(letters, length, (), tuple(choose.choices(facts, k=2))) for _ in range(30)]
    for letters, length in [("ab", 2), ("ab", 3), ("abc", 1), ("abc", 2), ("abc", 3)]:
        facts = all_facts(letters, length)
        for many in (0, 1, 1, 2, 2, 3, 4):
            for _ in range(12):
                hidden = choose.choice([None] + all_words(letters, length))
                rows = some_rows(choose, choose.choice([letters, letters[:2]]), length, many, hidden)
                rows += some_rows(choose, letters, length, choose.choice([0, 0, 1]), hidden and hidden[::-1])
                chosen = choose.choices(facts, k=choose.choice([0, 1, 2]))
                cases.append((letters, length, tuple(rows[:4]), tuple(chosen)))
    return cases


class PossibleTest(unittest.TestCase):
    def test_all_words_of_small_boards(self):
        choose = Random(82)
        for letters, length, rows, facts in impossible_cases():
            words = all_words(letters, length)
            left = words_that_fit(words, rows, facts)
            claim = ("possible", letters, length, rows, facts)
            for word in words:
                self.assertIs(holds(claim, word), word in left, (claim, word))
            self.assertIs(holds(("impossible",) + claim[1:], choose.choice(words)), False)

    def test_each_fact(self):
        for fact in all_facts("abc", 3):
            for word in all_words("abc", 3):
                self.assertIs(holds(("possible", "abc", 3, (), (fact,)), word), has_fact(word, fact))

    def test_words_that_differ_in_one_letter(self):
        for hidden in ("letter", "banana", "quartz"):
            rows = tuple((guess, marks_by_definition(guess, hidden)) for guess in ("tertle", "nabzua", hidden))
            claim = ("possible", ALPHABET, 6, rows, (("at", 0, hidden[0]),))
            self.assertIs(holds(claim, hidden), True)
            for place in range(6):
                for letter in ALPHABET:
                    word = hidden[:place] + letter + hidden[place + 1:]
                    self.assertIs(holds(claim, word), word == hidden)

    def test_what_is_no_word(self):
        for paper in no_words(3) + OTHER_OBJECTS:
            if not isinstance(paper, str) or paper not in ("abc", "aab"):
                self.assertIs(holds(("possible", "abc", 3, (), ()), paper), False)
                self.assertIs(holds(("possible", "abc", 3, (("aab", "210"),), ()), paper), False)

    def test_twenty_rows_and_four_facts(self):
        rows = (("aab", "220"), ("abc", "202")) * 10
        facts = (("at", 0, "a"), ("not", 2, "b"), ("least", "a", 2), ("most", "b", 0))
        self.assertIs(holds(("possible", "abc", 3, rows, facts), "aac"), True)
        for wrong in ((rows + rows[:1], facts), (rows, facts + facts[:1])):
            for kind in ("possible", "impossible"):
                self.assertIs(holds((kind, "abc", 3) + wrong, "aac"), False)


class ImpossibleTest(unittest.TestCase):
    def test_all_papers_on_small_boards(self):
        accepted = {}
        for letters, length, rows, facts in impossible_cases():
            bounds = Bounds(letters, length, rows, facts)
            claim = ("impossible", letters, length, rows, facts)
            found = []
            for paper in all_papers(letters, length, len(rows)):
                wanted = bounds.shows(paper)
                self.assertIs(holds(claim, paper), wanted, (claim, paper))
                self.assertIs(holds(("possible",) + claim[1:], paper), False)
                if wanted:
                    found.append(paper)
                    accepted[paper[0]] = accepted.get(paper[0], 0) + 1
            words = words_that_fit(all_words(letters, length), rows, facts)
            self.assertEqual(not words, bool(found), (claim, found))
        self.assertEqual(sorted(accepted), ["letter", "letters", "places", "row"])

    def test_rows_that_only_their_order_shows(self):
        for guess, told in [("aab", "010"), ("aba", "001"), ("aaa", "201"), ("baa", "001")]:
            claim = ("impossible", "abc", 3, (("abc", "000"), (guess, told)), ())
            self.assertIs(holds(claim, ("row", 1)), True)
            for place in (0, 2, -1, -2, True, False, "1", (1,), [1], None, 10 ** 19):
                self.assertIs(holds(claim, ("row", place)), False)
        for guess, told in [("aab", "100"), ("aab", "200"), ("aab", "020"), ("abc", "010"), ("aaa", "020")]:
            claim = ("impossible", "abc", 3, ((guess, told),), ())
            self.assertIs(holds(claim, ("row", 0)), False)

    def test_by_hand(self):
        claim = ("impossible", "abc", 3, (("abc", "100"),), ())
        for paper, wanted in [(("places", (0,)), True), (("places", (0, 1)), False), (("places", (0, 1, 2)), True),
                              (("places", (1,)), False), (("letters", "a"), False), (("letter", "a"), False)]:
            self.assertIs(holds(claim, paper), Bounds("abc", 3, *claim[3:]).shows(paper))
        self.assertIs(holds(claim, ("places", (0,))), True)
        claim = ("impossible", "abc", 2, (), (("least", "a", 2), ("most", "a", 1)))
        self.assertIs(holds(claim, ("letter", "a")), True)
        self.assertIs(holds(claim, ("letter", "b")), False)
        claim = ("impossible", "abc", 2, (), (("least", "a", 1), ("least", "b", 1), ("least", "c", 1)))
        for named, wanted in [("abc", True), ("ab", False), ("acb", False), ("aabc", False), ("", False)]:
            self.assertIs(holds(claim, ("letters", named)), wanted)
        claim = ("impossible", "ab", 3, (), (("most", "a", 1), ("most", "b", 1)))
        for named, wanted in [((0, 1, 2), True), ((0, 1), False), ((0, 2, 1), False), ((0, 1, 2, 2), False),
                              ((0, 0, 1, 2), False), ((0, 1, 2, 3), False), ((-1, 0, 1, 2), False), ((), False)]:
            self.assertIs(holds(claim, ("places", named)), wanted)

    def test_the_largest_board(self):
        rows = tuple((letters, "000000") for letters in ("abcdef", "ghijkl", "mnopqr", "stuvwx"))
        facts = (("most", "y", 2), ("most", "z", 3))
        claim = ("impossible", ALPHABET, 6, rows, facts)
        self.assertIs(holds(claim, ("places", (0, 1, 2, 3, 4, 5))), True)
        self.assertIs(holds(claim, ("places", (0, 1, 2, 3, 4))), False)
        self.assertIs(holds(claim, ("letters", ALPHABET)), False)
        self.assertIs(holds(("impossible", ALPHABET, 6, rows, (("least", "a", 1),)), ("letter", "a")), True)

    def test_papers_bent_into_what_is_none(self):
        claims = [(("impossible", "ab", 2, (("aa", "01"),), ()), ("row", 0)),
                  (("impossible", "ab", 2, (), (("least", "a", 2), ("most", "a", 1))), ("letter", "a")),
                  (("impossible", "ab", 2, (), (("least", "a", 2), ("not", 1, "a"))), ("letters", "a")),
                  (("impossible", "ab", 2, (), (("most", "a", 0), ("not", 1, "b"))), ("places", (1,)))]
        for claim, paper in claims:
            self.assertIs(holds(claim, paper), True)
            kind, named = paper
            for wrong in [list(paper), (kind,), paper + (None,), paper + (named,), (named, kind), (paper,), kind, named,
                          (kind.upper(), named), (kind + " ", named), (kind[:-1], named), (None, named),
                          (b"row", named), ([kind], named), ((kind,), named), ("", named), (Agreeing(), named),
                          (Raising(), named)] + [(kind, part) for part in bent_names(named)] + OTHER_OBJECTS:
                self.assertIs(holds(claim, wrong), False)
            for other in ("row", "letter", "letters", "places"):
                if other != kind and named != "a":
                    self.assertIs(holds(claim, (other, named)), False)

    def test_true_and_false_are_no_places(self):
        claim = ("impossible", "ab", 2, (("aa", "22"), ("aa", "01")), (("at", 1, "b"),))
        self.assertIs(holds(claim, ("row", 1)), True)
        self.assertIs(holds(claim, ("row", True)), False)
        self.assertIs(holds(claim, ("places", (1,))), True)
        self.assertIs(holds(claim, ("places", (True,))), False)
        claim = ("impossible", "ab", 2, (("aa", "01"), ("aa", "22")), (("at", 0, "b"),))
        self.assertIs(holds(claim, ("row", 0)), True)
        self.assertIs(holds(claim, ("row", False)), False)
        self.assertIs(holds(claim, ("places", (0,))), True)
        self.assertIs(holds(claim, ("places", (False,))), False)


def bent_names(named):
    """Return what is near to the second part of a paper, and none."""
    return [[named], (named,), list(named) if not isinstance(named, int) else [named], {named: 1}, None, True, False,
            str(named) + "c", str(named) * 2, "A", " a", "", (), 5, -1, -2, (2,), (-1,), ((1,),), [1], ("1",), "1",
            b"a", Agreeing(), Raising(), Plain(), nested(14), (Raising(),), (Agreeing(),), (1, 1), (None,), (1, None)]


class PartsTest(unittest.TestCase):
    def test_all_pairs_of_words_on_small_boards(self):
        choose = Random(83)
        for letters, length in [("ab", 1), ("ab", 2), ("ab", 3), ("abc", 2), ("abcd", 2)]:
            words = all_words(letters, length)
            for many, others in [(0, 0), (0, 1), (1, 1), (1, 2), (2, 1), (2, 2), (3, 1), (20, 20)]:
                guesses, asked = tuple(choose.choices(words, k=many)), tuple(choose.choices(words, k=others))
                claim = ("parts", letters, length, guesses, asked)
                for one, two in product(words, repeat=2):
                    same = all(marks_by_definition(guess, one) == marks_by_definition(guess, two) for guess in guesses)
                    seen = any(marks_by_definition(guess, one) != marks_by_definition(guess, two) for guess in asked)
                    self.assertIs(holds(claim, (one, two)), same and seen, (claim, one, two))

    def test_large_boards(self):
        choose = Random(84)
        for letters, length in [(ALPHABET, 6), (ALPHABET, 5), ("abcdef", 6)]:
            board = Board(letters, length)
            for few in (2, 4, len(letters)):
                guesses, asked = (tuple("".join(choose.choices(letters[:few], k=length)) for _ in range(many))
                                  for many in (2, 5))
                claim = ("parts", letters, length, guesses, asked)
                for word in guesses + asked:
                    pairs = [(word, word[:at] + letters[-1] + word[at + 1:]) for at in range(length)]
                    pairs += [(word, "".join(moved)) for moved in list(permutations(word))[::97]] + [(word, word)]
                    for one, two in pairs:
                        same = all(marks(board, guess, one) == marks(board, guess, two) for guess in guesses)
                        seen = any(marks(board, guess, one) != marks(board, guess, two) for guess in asked)
                        self.assertIs(holds(claim, (one, two)), same and seen)
                        self.assertIs(holds(claim, (two, one)), same and seen)

    def test_by_hand(self):
        claim = ("parts", "abc", 2, ("ab",), ("aa",))
        for one, two, wanted in [("aa", "ac", True), ("ac", "aa", True), ("aa", "aa", False), ("bb", "cb", True),
                                 ("ab", "ac", False), ("cc", "cc", False), ("bb", "cc", False)]:
            same = marks_by_definition("ab", one) == marks_by_definition("ab", two)
            seen = marks_by_definition("aa", one) != marks_by_definition("aa", two)
            self.assertIs(holds(claim, (one, two)), same and seen)
        self.assertIs(holds(claim, ("aa", "ac")), True)

    def test_papers_bent_into_what_is_none(self):
        claim = ("parts", "abc", 2, ("ab",), ("aa",))
        for paper in [["aa", "ac"], ("aa",), ("aa", "ac", "aa"), ("aa", "ac", None), "aaac", ("aa", "acc"),
                      ("aa", "ad"), ("aa", "a"), ("aa", ""), ("aa", "AC"), ("aa", None), (None, "ac"), ("aa", ["ac"]),
                      (("aa", "ac"),), [("aa", "ac")], (("a", "a"), ("a", "c")), {"aa": "ac"}, ("aa", b"ac"),
                      ("aa", Agreeing()), ("aa", Raising()), (Raising(), "ac"), ("aa", True), ("aa", nested(14)),
                      "aa"] + OTHER_OBJECTS:
            self.assertIs(holds(claim, paper), False)

    def test_lists_of_no_guess_and_of_twenty(self):
        self.assertIs(holds(("parts", "abc", 2, (), ("aa",) * 20), ("aa", "ac")), True)
        self.assertIs(holds(("parts", "abc", 2, ("ab",) * 20, ("aa",)), ("aa", "ac")), True)
        self.assertIs(holds(("parts", "abc", 2, (), ()), ("aa", "ac")), False)
        self.assertIs(holds(("parts", "abc", 2, (), ("aa",) * 21), ("aa", "ac")), False)
        self.assertIs(holds(("parts", "abc", 2, ("ab",) * 21, ("aa",)), ("aa", "ac")), False)


def no_lists_of_guesses():
    """Return what is no list of guesses of the board ab 2."""
    return [["aa"], "aa", "", None, True, 0, {"aa": 1}, ("a",), ("aaa",), ("ac",), ("AA",), ("aa", None), (None,),
            (("aa",),), (["a", "a"],), (b"aa",), ("aa", 0), ("aa",) * 21, Agreeing(), Raising(), (Agreeing(),),
            (Raising(),), nested(14), (("aa", "22"),), []]


def no_tuples_of_rows():
    """Return what is no tuple of rows of the board ab 2."""
    return [[], [("aa", "22")], None, True, 0, "", "aa", ("aa", "22"), (["aa", "22"],), (("aa",),),
            (("aa", "22", None),), (("ac", "22"),), (("a", "22"),), (("aa", "2"),), (("aa", "23"),), (("aa", 22),),
            ((None, "22"),), (("aa", None),), (("aa", ["2", "2"]),), ((("a", "a"), "22"),), (("aa", "22"), None),
            ({"aa": "22"},), (("aa", "22"),) * 21, Agreeing(), Raising(), (Agreeing(),), (Raising(),),
            ((Raising(), "22"),), (("aa", Raising()),), nested(14), {("aa", "22"): 1}, (b"aa", b"22")]


class FormTest(unittest.TestCase):
    claims = [(("possible", "ab", 2, (("aa", "20"),), (("at", 1, "b"),)), "ab"),
              (("possible", "ab", 2, (), ()), "ba"),
              (("impossible", "ab", 2, (("aa", "01"),), (("at", 1, "b"),)), ("row", 0)),
              (("impossible", "ab", 2, (), (("at", 1, "b"), ("not", 1, "b"))), ("places", (1,))),
              (("parts", "ab", 2, (), ("ab",)), ("aa", "ab"))]

    def test_the_claims_hold(self):
        for claim, paper in self.claims:
            self.assertIs(holds(claim, paper), True)
            self.assertIs(holds(claim=claim, paper=paper), True)
            self.assertIs(holds(paper=paper, claim=claim), True)
            self.assertIs(holds(paper, claim), False)

    def test_claims_that_are_none(self):
        for claim, paper in self.claims:
            for wrong in [list(claim), claim[:4], claim + (None,), claim + ((),), claim[1:], (claim,), claim[::-1],
                          claim[:1] + claim, claim[0], (), [], None] + OTHER_OBJECTS:
                self.assertIs(holds(wrong, paper), False)
                self.assertIs(holds(wrong, wrong), False)

    def bent(self, claim, at, parts):
        """Return the claim with each of the parts in turn at this place."""
        return [claim[:at] + (part,) + claim[at + 1:] for part in parts]

    def test_first_strings(self):
        for claim, paper in self.claims:
            for wrong in self.bent(claim, 0, ["", "Possible", "POSSIBLE", "possible ", "im", "part", "partss", None,
                                              True, 0, b"possible", ["possible"], (claim[0],), Agreeing(), Raising(),
                                              Plain(), nested(14), "row", "unknown"]):
                self.assertIs(holds(wrong, paper), False)
            for other in ("possible", "impossible", "parts"):
                if other != claim[0]:
                    self.assertIs(holds((other,) + claim[1:], paper), False)

    def test_alphabets_and_lengths(self):
        for claim, paper in self.claims:
            for letters in ("", "a", "ba", "aa", "aab", "abb", "AB", "a b", "ab ", "ab\n", "a1", "\u00e4b",
                            ALPHABET + "a",
                            ALPHABET * 2, ("a", "b"), ["a", "b"], None, True, 2, b"ab", Agreeing(), Raising(),
                            Board("ab", 2), nested(14)):
                self.assertIs(holds(self.bent(claim, 1, [letters])[0], paper), False)
            for length in (0, 1, 3, 7, -1, -2, 10 ** 19, True, False, None, "2", "", (2,), [2], b"2", Agreeing(),
                           Raising(), Board("ab", 2), nested(14)):
                if not (length in (1, 3) if type(length) is int else False) or claim[3]:
                    self.assertIs(holds(self.bent(claim, 2, [length])[0], paper), False)

    def test_length_one_is_not_true(self):
        for length, wanted in [(1, True), (True, False)]:
            self.assertIs(holds(("possible", "ab", length, (), ()), "a"), wanted)
            self.assertIs(holds(("parts", "ab", length, (), ("a",)), ("a", "b")), wanted)
            self.assertIs(holds(("impossible", "ab", length, (), (("at", 0, "a"), ("at", 0, "b"))), ("places", (0,))),
                          wanted)

    def test_rows_and_guesses(self):
        for claim, paper in self.claims:
            parts = no_lists_of_guesses() if claim[0] == "parts" else no_tuples_of_rows()
            for wrong in self.bent(claim, 3, parts):
                self.assertIs(holds(wrong, paper), False, wrong[3:])

    def test_facts_and_other_guesses(self):
        for claim, paper in self.claims:
            if claim[0] == "parts":
                parts = no_lists_of_guesses()
            else:
                parts = [[], [("at", 1, "b")], None, True, 0, "", "at", ("at", 1, "b"), Agreeing(), Raising(),
                         (("at", 1, "b"),) * 5, nested(14), {("at", 1, "b"): 1}]
            for wrong in self.bent(claim, 4, parts):
                self.assertIs(holds(wrong, paper), False, wrong[3:])

    def test_facts_that_are_none(self):
        for fact in no_facts(BOARD):
            for facts in ((fact,), (("at", 0, "a"), fact), (fact, ("at", 0, "a"))):
                self.assertIs(holds(("possible", "abc", 3, (), facts), "aaa"), False)
                self.assertIs(holds(("impossible", "abc", 3, (("aab", "010"),), facts), ("row", 0)), False)

    def test_true_is_no_place_and_no_number(self):
        for fact in (("at", True, "b"), ("not", False, "b"), ("least", "a", True), ("most", "b", True)):
            self.assertIs(holds(("possible", "ab", 2, (), (fact,)), "ab"), False)
            self.assertIs(holds(("possible", "ab", 2, (), (fact[:1] + tuple(
                int(part) if part is True or part is False else part for part in fact[1:]),)), "ab"), True)

    def test_any_objects(self):
        for claim in OTHER_OBJECTS:
            for paper in OTHER_OBJECTS:
                self.assertIs(holds(claim, paper), False)

    def test_the_function_is_defined_where_it_is_listed(self):
        self.assertEqual(holds.__module__, "guessmarks.checker")
        self.assertIs(checker.holds, holds)


if __name__ == "__main__":
    unittest.main()
