"""What several tests share: refused objects, a check of errors, and marks by their definition."""

from itertools import product

from guessmarks import errors

ALPHABET = "abcdefghijklmnopqrstuvwxyz"


class Plain:
    """An object of a kind that no part of the package knows."""


class Lookalike:
    """Has what a board has, and is none."""

    letters = "abc"
    length = 3
    size = 27

    def word(self, number):
        return "abc"

    def number(self, word):
        return 5

    def __str__(self):
        return "abc 3"

    def __repr__(self):
        return "Board(abc 3)"


def nested(depth):
    """Return a tuple that is nested this deep."""
    inner = ()
    for _ in range(depth - 1):
        inner = (inner,)
    return inner


def strange_objects():
    """Return objects that are neither strings nor integers nor boards."""
    return [None, True, False, (), [], {}, set(), (1, 2), ["a", "b"], {"a": 1}, {"a", "b"}, b"", b"abc", 3j,
            range(3), len, str, int, object(), Plain(), Plain, Lookalike(), nested(15), [[["abc"]]], NotImplemented]


def own_error_classes():
    """Return the error classes that the module defines."""
    return [thing for thing in vars(errors).values() if isinstance(thing, type) and issubclass(thing, Exception)]


def refused(test, kind, call, *args, **named):
    """Return the error of a call, which must be of this class alone."""
    try:
        result = call(*args, **named)
    except Exception as error:
        test.assertIs(type(error), kind, f"{args!r} {named!r}")
        return error
    test.fail(f"no {kind.__name__} for {args!r} {named!r}, but {result!r}")


def refuses_value(test, kind, value, call, *args, **named):
    """Check that the call raises this error, and that the error keeps this very argument."""
    error = refused(test, kind, call, *args, **named)
    test.assertIs(error.value, value)


def all_words(letters, length):
    """Return all words in the order of the strings."""
    return sorted("".join(word) for word in product(letters, repeat=length))


def all_marks(length):
    """Return all strings of marks of this length."""
    return ["".join(told) for told in product("012", repeat=length)]


def marks_by_definition(guess, word):
    """Mark a guess in the very steps of point [7]."""
    told = ["2" if letter == hidden else "" for letter, hidden in zip(guess, word)]
    for place, letter in enumerate(guess):
        if told[place] == "2":
            continue
        already = len([at for at in range(len(guess)) if guess[at] == letter and told[at] in ("1", "2")])
        told[place] = "1" if word.count(letter) > already else "0"
    return "".join(told)
