"""Every error class: its attribute and its bases (interface, guessmarks/errors.py)."""

import unittest

from guessmarks import errors
from guessmarks.boards import Board
from tests.support import nested, own_error_classes, strange_objects

LINES = [
    ("InputError", ValueError, {
        "value": ["NotABoard", "NotAHistory", "NotAGame", "InvalidLetters", "InvalidLength", "InvalidWord",
                  "InvalidMarks", "InvalidFact", "InvalidNumber", "InvalidPlace", "InvalidLine"],
        "index": ["InvalidRows", "InvalidFacts", "InvalidGuesses", "InvalidDeeds"],
    }),
    ("StateError", LookupError, {
        None: ["Mismatch", "NoWord", "NothingToUndo", "Busy"],
        "value": ["WordNotLeft", "GuessNotLeft"],
    }),
    ("SizeError", ArithmeticError, {"limit": ["TooManyRows"]}),
]

PYTHON_BASES = (ValueError, LookupError, ArithmeticError)


def rows():
    """Return (class, base of its line, Python's base, attribute) for each class that is not a base."""
    return [(getattr(errors, name), getattr(errors, base), python, attribute)
            for base, python, groups in LINES for attribute, names in groups.items() for name in names]


def with_attribute():
    return [(kind, attribute) for kind, _, _, attribute in rows() if attribute is not None]


def kept_objects():
    """Return objects of all sorts that an attribute may be asked to keep."""
    return strange_objects() + [0, 5, -1, 20, 10 ** 20 - 1, "", "abc", "x" * 500, nested(15),
                                Board("ab", 2), ValueError("x"), ("row", 0), "possible"]


class AttributeTest(unittest.TestCase):
    def test_argument_by_position(self):
        for kind, attribute in with_attribute():
            for thing in kept_objects():
                self.assertIs(getattr(kind(thing), attribute), thing, kind)

    def test_argument_by_name(self):
        for kind, attribute in with_attribute():
            for thing in kept_objects():
                self.assertIs(getattr(kind(**{attribute: thing}), attribute), thing, kind)

    def test_argument_that_can_be_changed_is_not_copied(self):
        for kind, attribute in with_attribute():
            thing = ["a"]
            error = kind(thing)
            thing.append("b")
            self.assertIs(getattr(error, attribute), thing)
            self.assertEqual(thing, ["a", "b"])

    def test_each_object_keeps_its_own_argument(self):
        for kind, attribute in with_attribute():
            one, two = kind(1), kind(2)
            self.assertEqual((getattr(one, attribute), getattr(two, attribute)), (1, 2))

    def test_the_attribute_is_still_there_when_the_error_is_caught(self):
        for kind, attribute in with_attribute():
            thing = object()
            with self.assertRaises(kind) as caught:
                raise kind(thing)
            self.assertIs(getattr(caught.exception, attribute), thing)


class BaseTest(unittest.TestCase):
    def test_the_number_of_classes(self):
        self.assertEqual(len(rows()), 22)
        self.assertEqual(len({kind for kind, _, _, _ in rows()}), 22)

    def test_classes_without_attributes_and_bases_are_created_without_arguments(self):
        for name in ("InputError", "StateError", "SizeError", "Mismatch", "NoWord", "NothingToUndo", "Busy"):
            kind = getattr(errors, name)
            with self.assertRaises(kind) as caught:
                raise kind()
            self.assertIs(type(caught.exception), kind)

    def test_each_line_has_its_python_base_alone(self):
        for base, python, _ in LINES:
            error = getattr(errors, base)()
            self.assertEqual([kind for kind in PYTHON_BASES if isinstance(error, kind)], [python])

    def test_the_bases_of_the_lines_are_none_of_the_other_classes(self):
        for base, _, _ in LINES:
            kind = getattr(errors, base)
            self.assertEqual([other for other in own_error_classes() if issubclass(kind, other)], [kind])

    def test_each_class_descends_from_the_base_of_its_line_only(self):
        for kind, base, python, attribute in rows():
            error = kind() if attribute is None else kind(None)
            own = [other for other in own_error_classes() if isinstance(error, other)]
            self.assertEqual(sorted(other.__name__ for other in own), sorted([kind.__name__, base.__name__]))
            self.assertEqual([other for other in PYTHON_BASES if isinstance(error, other)], [python])
            self.assertNotIsInstance(error, (KeyError, IndexError, ZeroDivisionError, OverflowError, UnicodeError))

    def test_each_class_is_caught_as_its_bases(self):
        for kind, base, python, attribute in rows():
            for caught in (kind, base, python, Exception):
                with self.assertRaises(caught):
                    raise kind() if attribute is None else kind("x")

    def test_each_class_is_defined_in_the_module(self):
        for name in [base for base, _, _ in LINES] + [kind.__name__ for kind, _, _, _ in rows()]:
            self.assertEqual(getattr(errors, name).__module__, "guessmarks.errors")
            self.assertEqual(getattr(errors, name).__name__, name)


if __name__ == "__main__":
    unittest.main()
