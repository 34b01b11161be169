"""The form of the package that ../shared/LANGUAGE.md asks for, as far as a short test can see it."""

import ast
import re
import unittest
from pathlib import Path

import guessmarks

FOLDER = Path(guessmarks.__file__).parent

BARRED_WORDS = ["type", "typing", "typing_extensions", "enum", "Enum", "IntEnum", "StrEnum", "Flag", "IntFlag",
                "Generic", "Protocol", "ABC", "ABCMeta", "namedtuple", "NamedTuple", "TypedDict", "TYPE_CHECKING",
                "abstractmethod"]


def sources():
    """Return (name, text) for each file of the package."""
    return [(path.name, path.read_text(encoding="utf-8")) for path in sorted(FOLDER.glob("*.py"))]


class FormTest(unittest.TestCase):
    def test_the_folder_contains_nothing_but_python_files(self):
        # Python itself stores compiled files in __pycache__; they are no part of the repository.
        others = [path.name for path in FOLDER.iterdir() if path.name != "__pycache__"]
        self.assertEqual([name for name in others if not re.fullmatch(r"[a-z0-9_]+\.py", name)], [])
        self.assertIn("__init__.py", others)

    def test_lines_and_characters(self):
        for name, text in sources():
            lines = text.split("\n")
            self.assertLessEqual(len(lines), 400, name)
            for line in lines:
                self.assertLessEqual(len(line), 120, name)
                self.assertEqual([letter for letter in line if not " " <= letter <= "~"], [], name)

    def test_functions_are_small(self):
        for name, text in sources():
            for node in ast.walk(ast.parse(text)):
                if isinstance(node, ast.FunctionDef):
                    self.assertLessEqual(node.end_lineno - node.lineno + 1, 40, f"{name} {node.name}")

    def test_imports_come_from_the_package_alone(self):
        for name, text in sources():
            for node in ast.walk(ast.parse(text)):
                self.assertFalse(isinstance(node, ast.Import) and name != "__main__.py", name)
                if isinstance(node, ast.ImportFrom) and node.module != "__future__":
                    self.assertEqual(node.level, 0, name)
                    self.assertTrue(node.module.startswith("guessmarks."), name)

    def test_barred_words(self):
        barred = re.compile(r"\b(" + "|".join(BARRED_WORDS) + r")\b|dataclass|overload|contextmanager")
        for name, text in sources():
            self.assertIsNone(barred.search(text), name)

    def test_no_float_and_no_division(self):
        for name, text in sources():
            for node in ast.walk(ast.parse(text)):
                self.assertFalse(isinstance(node, ast.Constant) and isinstance(node.value, (float, complex)), name)
                self.assertNotIsInstance(node, ast.Div, name)


if __name__ == "__main__":
    unittest.main()
