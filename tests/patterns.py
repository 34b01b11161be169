"""Words of large boards as patterns: all letters that nothing names are written with one sign.

All words of the largest board are too many for a list. But rows and facts tell nothing apart among the letters
that they do not name, so a list of patterns over the named letters and one sign stands for all words.
"""

from itertools import product

from tests.support import has_fact, marks_by_definition

SIGN = "?"


def named_letters(rows, facts=()):
    """Return the letters that rows and facts name."""
    guessed = {letter for guess, told in rows for letter in guess}
    stated = {second if kind in ("at", "not") else first for kind, first, second in facts}
    return sorted(guessed | stated)


def patterns_left(board, rows, facts=()):
    """Return the patterns that fit the rows and have the facts."""
    named = named_letters(rows, facts)
    signs = named + [SIGN] if len(named) < len(board.letters) else named
    left = ["".join(signs) for signs in product(signs, repeat=board.length)]
    for guess, told in rows:
        left = [pattern for pattern in left if marks_by_definition(guess, pattern) == told]
    return [pattern for pattern in left if all(has_fact(pattern, fact) for fact in facts)]


def count_of_patterns(board, rows, facts=()):
    """Return for how many words the patterns stand."""
    others = len(board.letters) - len(named_letters(rows, facts))
    return sum(others ** pattern.count(SIGN) for pattern in patterns_left(board, rows, facts))


def table_of_patterns(board, rows):
    """Return the table; at least two letters have to be left that no row names."""
    left = patterns_left(board, rows)
    if not left:
        return None
    named = named_letters(rows)
    letters = []
    for place in range(board.length):
        signs = {pattern[place] for pattern in left}
        letters.append("".join(letter for letter in board.letters
                               if letter in signs or (letter not in named and SIGN in signs)))
    bounds = []
    for letter in board.letters:
        if letter in named:
            numbers = [pattern.count(letter) for pattern in left]
            bounds.append((min(numbers), max(numbers)))
        else:
            # Another letter that no row names can stand at all its places.
            bounds.append((0, max(pattern.count(SIGN) for pattern in left)))
    return tuple(letters), tuple(bounds)
