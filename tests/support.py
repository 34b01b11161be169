"""What several tests share: refused objects, a check of errors, and marks by their definition."""

from itertools import product
from random import Random

from guessmarks import errors
from guessmarks.boards import Board
from guessmarks.histories import History

ALPHABET = "abcdefghijklmnopqrstuvwxyz"

SMALL_BOARDS = [("ab", 1), ("ab", 2), ("ab", 3), ("ab", 4), ("bz", 4), ("abc", 1), ("abc", 2), ("abc", 3), ("abc", 4),
                ("abcd", 1), ("abcd", 2), ("abcd", 3), ("abcd", 4)]

# Boards on which more words are left, and which can still be compared with lists of all words.
MIDDLE_BOARDS = [("abcdefghij", 2), ("abcdef", 3), ("acegikm", 3), ("abcde", 4), ("abc", 5), ("ab", 6), ("xyz", 6)]


class Plain:
    """An object of a kind that no part of the package knows."""


class Agreeing:
    """Says that it is equal to everything."""

    def __eq__(self, other):
        return True

    def __ne__(self, other):
        return False


class Raising:
    """Cannot be compared and has no length and no truth."""

    def __eq__(self, other):
        raise RuntimeError("compared")

    def __bool__(self):
        raise RuntimeError("tested")

    def __len__(self):
        raise RuntimeError("measured")


class Lookalike:
    """Has what a board has, and is none."""

    letters = "abc"
    length = 3
    size = 27

    def word(self, number):
        return "abc"

    def number(self, word):
        return 5

    def __str__(self):
        return "abc 3"

    def __repr__(self):
        return "Board(abc 3)"


def nested(depth):
    """Return a tuple that is nested this deep."""
    inner = ()
    for _ in range(depth - 1):
        inner = (inner,)
    return inner


def strange_objects():
    """Return objects that are neither strings nor integers nor boards."""
    return [None, True, False, (), [], {}, set(), (1, 2), ["a", "b"], {"a": 1}, {"a", "b"}, b"", b"abc", 3j,
            range(3), len, str, int, object(), Plain(), Plain, Lookalike(), nested(15), [[["abc"]]], NotImplemented]


def own_error_classes():
    """Return the error classes that the module defines."""
    return [thing for thing in vars(errors).values() if isinstance(thing, type) and issubclass(thing, Exception)]


def refused(test, kind, call, *args, **named):
    """Return the error of a call, which must be of this class alone."""
    try:
        result = call(*args, **named)
    except Exception as error:
        test.assertIs(type(error), kind, f"{args!r} {named!r}")
        return error
    test.fail(f"no {kind.__name__} for {args!r} {named!r}, but {result!r}")


def refuses_value(test, kind, value, call, *args, **named):
    """Check that the call raises this error, and that the error keeps this very argument."""
    error = refused(test, kind, call, *args, **named)
    test.assertIs(error.value, value)


def all_words(letters, length):
    """Return all words in the order of the strings."""
    return sorted("".join(word) for word in product(letters, repeat=length))


def all_marks(length):
    """Return all strings of marks of this length."""
    return ["".join(told) for told in product("012", repeat=length)]


def marks_by_definition(guess, word):
    """Mark a guess in the very steps of point [7]."""
    told = ["2" if letter == hidden else "" for letter, hidden in zip(guess, word)]
    for place, letter in enumerate(guess):
        if told[place] == "2":
            continue
        already = len([at for at in range(len(guess)) if guess[at] == letter and told[at] in ("1", "2")])
        told[place] = "1" if word.count(letter) > already else "0"
    return "".join(told)


class HistoryLookalike:
    """Has what a history has, and is none."""

    rows = ()

    def __init__(self, board):
        self.board = board

    def fits(self, word):
        return True

    def __len__(self):
        return 0

    def __repr__(self):
        return "History(0 rows)"


def no_histories(board):
    """Return objects that are no histories, but near to one of this board."""
    return strange_objects() + ["", "abc", "History(0 rows)", 0, 1, -1, board, (board,), [board], ("abc", "012"),
                                (("abc", "012"),), HistoryLookalike(board), HistoryLookalike, nested(14)]


def has_fact(word, fact):
    """Tell whether the word has the fact, in the words of point [9]."""
    kind, first, second = fact
    return {"at": lambda: word[first] == second, "not": lambda: word[first] != second,
            "least": lambda: word.count(first) >= second, "most": lambda: word.count(first) <= second}[kind]()


def all_facts(letters, length):
    """Return all facts of a board."""
    return [(kind, place, letter) for kind in ("at", "not") for place in range(length) for letter in letters] + [
        (kind, letter, number) for kind in ("least", "most") for letter in letters for number in range(length + 1)]


def words_that_fit(words, rows, facts=()):
    """Return those of the words that fit all rows and have all facts."""
    return [word for word in words if all(marks_by_definition(guess, word) == told for guess, told in rows)
            and all(has_fact(word, fact) for fact in facts)]


def table_of_words(letters, length, words):
    """Return the table of a list of words that are left."""
    if not words:
        return None
    return (tuple("".join(sorted({word[place] for word in words})) for place in range(length)),
            tuple((min(word.count(letter) for word in words), max(word.count(letter) for word in words))
                  for letter in letters))


def some_rows(choose, letters, length, many, hidden):
    """Return rows of chosen guesses; a hidden word of None stands for marks that are chosen, too."""
    rows = []
    for _ in range(many):
        guess = "".join(choose.choices(letters, k=length))
        told = "".join(choose.choices("012", k=length)) if hidden is None else marks_by_definition(guess, hidden)
        rows.append((guess, told))
    return rows


def marked(board, hidden, *guesses):
    """Return the history of these guesses for the hidden word."""
    return History(board, *[(guess, marks_by_definition(guess, hidden)) for guess in guesses])


def twenty_guesses():
    """Return twenty different guesses of the largest board, which name all letters."""
    return ["".join(ALPHABET[(start + 5 * step) % 26] for step in range(6)) for start in range(20)]


def all_rows(letters, length):
    """Return all rows of a board, those that no word fits among them."""
    return list(product(all_words(letters, length), all_marks(length)))


def cases_of_all_rows():
    """Return triples (letters, length, rows) with each row, and with each pair of rows, of the smallest boards."""
    cases = [(letters, length, ()) for letters, length in SMALL_BOARDS]
    for letters, length in [("ab", 1), ("ab", 2), ("ab", 3), ("bz", 4), ("abc", 1), ("abc", 2), ("abc", 3),
                            ("abcd", 1), ("abcd", 2)]:
        cases += [(letters, length, (row,)) for row in all_rows(letters, length)]
    for letters, length in [("ab", 1), ("ab", 2), ("abc", 1)]:
        cases += [(letters, length, rows) for rows in product(all_rows(letters, length), repeat=2)]
    return cases


def chosen_cases():
    """Return triples (letters, length, rows) with up to six rows, and with 20."""
    choose = Random(20)
    cases = []
    for letters, length in SMALL_BOARDS + MIDDLE_BOARDS:
        for many in (1, 1, 2, 2, 2, 3, 3, 4, 5, 6, 20):
            hidden = "".join(choose.choices(letters, k=length))
            rows = some_rows(choose, letters, length, many, hidden)
            few = some_rows(choose, letters[:2], length, many, hidden)
            again = choose.choices(rows[:2], k=many)
            mixed = rows[1:] + some_rows(choose, letters, length, 1, None)
            others = some_rows(choose, letters, length, many, None)
            cases += [(letters, length, tuple(told)) for told in (rows, few, again, mixed, others)]
    return cases


def no_facts(board):
    """Return what is no fact of the board abc 3."""
    wrong = []
    for kind in ("", "AT", "At", "at ", " at", "in", "att", "a", "nota", "atnot", "Least", "leastmost", "exactly", None,
                 True, 0, 1, b"at", ("at",), ["at"], {"at": 1}, Plain(), Agreeing(), Raising(), nested(13)):
        wrong += [(kind, 0, "a"), (kind, "a", 0)]
    for kind in ("at", "not"):
        wrong += [(kind, place, "a") for place in (
            -1, -3, 3, 4, 10 ** 19, -(10 ** 19), True, False, None, "0", "1", "", "a", (), (0,), [0], {0: 0}, b"0",
            board, Agreeing(), Raising(), nested(13))]
        wrong += [(kind, 0, letter) for letter in (
            "d", "z", "A", "B", "", "ab", "abc", "aa", " a", "a ", "a\n", " ", "0", "\u00e4", 0, 1, None, True, False,
            (), ("a",), ["a"], {"a": 1}, b"a", board, Agreeing(), Raising(), nested(13))]
        wrong += [(kind, "a", 0), (kind, True, True), (kind, None, None)]
    for kind in ("least", "most"):
        wrong += [(kind, "a", number) for number in (
            -1, -3, 4, 5, 10 ** 19, -(10 ** 19), True, False, None, "0", "1", "", "a", (), (1,), [1], {1: 1}, b"1",
            board, Agreeing(), Raising(), nested(13))]
        wrong += [(kind, letter, 1) for letter in (
            "d", "z", "A", "B", "", "ab", "abc", "aa", " a", "a ", "a\n", " ", "0", "\u00e4", 0, 1, None, True, False,
            (), ("a",), ["a"], {"a": 1}, b"a", board, Agreeing(), Raising(), nested(13))]
        wrong += [(kind, 0, "a"), (kind, 1, "a"), (kind, True, True), (kind, None, None)]
    for kind, first, second in (("at", 0, "a"), ("not", 0, "a"), ("least", "a", 1), ("most", "a", 1)):
        wrong += [[kind, first, second], (kind,), (kind, first), (first, second), (kind, first, second, second),
                  (kind, first, second, None), (kind, (first, second)), ((kind, first, second),),
                  [(kind, first, second)], {kind: (first, second)}, f"{kind} {first} {second}", kind,
                  (kind, first, [second]), (kind, [first], second), (second, first, kind), (first, second, kind)]
    return wrong + [(), [], ("",), ("at0a",), "at0", "abc", "", 0, 1, -1, board, nested(15)] + strange_objects()


def check_refused_facts(test, history, call):
    """Check that a function with a history and collected facts refuses whatever is no fact of the board abc 3."""
    good = ("at", 2, "c")
    for fact in no_facts(history.board):
        test.assertEqual(refused(test, errors.InvalidFacts, call, history, fact).index, 0, fact)
        test.assertEqual(refused(test, errors.InvalidFacts, call, history, good, fact).index, 1, fact)
        test.assertEqual(refused(test, errors.InvalidFacts, call, history, good, fact, good).index, 1, fact)
        test.assertEqual(refused(test, errors.InvalidFacts, call, history, good, good, good, fact).index, 3, fact)
        test.assertEqual(refused(test, errors.InvalidFacts, call, history, good, fact, fact, None).index, 1, fact)
        test.assertIsNone(refused(test, errors.InvalidFacts, call, history, good, good, good, good, fact).index)
        test.assertIsNone(refused(test, errors.InvalidFacts, call, history, fact, fact, fact, fact, fact).index)
    for many in (5, 6, 21, 100):
        test.assertIsNone(refused(test, errors.InvalidFacts, call, history, *([good] * many)).index)
        test.assertIsNone(refused(test, errors.InvalidFacts, call, history, *([None] * many)).index)
    for at in range(4):
        facts = [good] * 4
        facts[at] = ("at", 3, "c")
        index = refused(test, errors.InvalidFacts, call, history, *facts).index
        test.assertEqual(index, at)
        test.assertIs(type(index), int)


def counted_answers(guess, left):
    """Return the answers of a guess to a list of words that are left."""
    numbers = {}
    for word in left:
        told = marks_by_definition(guess, word)
        numbers[told] = numbers.get(told, 0) + 1
    return tuple(sorted(numbers.items()))


def no_words(length):
    """Return objects that are no words of a board with the letters abc and this length from 2 to 5."""
    wrong = ["", "a", "abc" * 30, "d" * length, "A" * length, "b" * (length - 1), "b" * (length + 1),
             " " + "a" * (length - 1), "a" * (length - 1) + "\n", "a" * (length - 1) + " ", "a" * (length - 1) + "d",
             "0" * length, "a" * (length - 1) + "\u00e4", "ab" * 250, b"abc", b"a" * length, 0, 1, -1, 10 ** 19,
             ("a",) * length, ["a"] * length, ("a" * length,), ["a" * length], {"a" * length: 1}, Agreeing(), Raising(),
             Agreeing, nested(15), Board("abc", length), History(Board("abc", length))]
    return wrong + strange_objects()


def no_lists(length):
    """Return objects that are no tuples, but near to a list of guesses of this length over abc."""
    good = "a" * length
    return [[good], [good, good], [], good, "", "abc", {good: 1}, {good}, {}, set(), frozenset([good]), range(length),
            iter((good,)), (guess for guess in (good,)), None, True, False, 0, 1, -1, 20, b"a" * length, Agreeing(),
            Raising(), Plain(), Plain, object(), tuple, len, [nested(14)], Board("abc", length), Lookalike()]


def check_refused_guesses(test, call):
    """Check that a call of a list of guesses of the board abc 3 refuses whatever is no such list."""
    for guesses in no_lists(3):
        test.assertIsNone(refused(test, errors.InvalidGuesses, call, guesses).index)
    for many in (21, 22, 40, 100):
        for wrong in ("abc", "abd", None, 3, ["abc"], Raising()):
            for at in (0, 10, 20, many - 1):
                guesses = ["abc"] * many
                guesses[at] = wrong
                test.assertIsNone(refused(test, errors.InvalidGuesses, call, tuple(guesses)).index)
        test.assertIsNone(refused(test, errors.InvalidGuesses, call, (None,) * many).index)
    for wrong in no_words(3):
        for many, at in [(1, 0), (2, 0), (2, 1), (5, 2), (20, 0), (20, 9), (20, 19)]:
            guesses = ["abc"] * many
            guesses[at] = wrong
            test.assertEqual(refused(test, errors.InvalidGuesses, call, tuple(guesses)).index, at)
    for many in (1, 2, 3, 19, 20):
        for at in range(many):
            guesses = ["abc", "bbb", "cab", "aab"] * 5
            guesses[at] = "abcd"
            index = refused(test, errors.InvalidGuesses, call, tuple(guesses[:many])).index
            test.assertEqual(index, at)
            test.assertIs(type(index), int)
            guesses[at:] = [None] * (20 - at)
            test.assertEqual(refused(test, errors.InvalidGuesses, call, tuple(guesses)).index, at)
