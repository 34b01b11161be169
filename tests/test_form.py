"""The form of the package that ../shared/LANGUAGE.md asks for, as far as a short test can see it."""

import ast
import builtins
import re
import unittest
from pathlib import Path

import guessmarks

FOLDER = Path(guessmarks.__file__).parent

BARRED_WORDS = ["type", "typing", "typing_extensions", "enum", "Enum", "IntEnum", "StrEnum", "Flag", "IntFlag",
                "Generic", "Protocol", "ABC", "ABCMeta", "namedtuple", "NamedTuple", "TypedDict", "TYPE_CHECKING",
                "abstractmethod"]


def sources():
    """Return (name, text) for each file of the package."""
    return [(path.name, path.read_text(encoding="utf-8")) for path in sorted(FOLDER.glob("*.py"))]


class FormTest(unittest.TestCase):
    def test_the_folder_contains_nothing_but_python_files(self):
        # Python itself stores compiled files in __pycache__; they are no part of the repository.
        others = [path.name for path in FOLDER.iterdir() if path.name != "__pycache__"]
        self.assertEqual([name for name in others if not re.fullmatch(r"[a-z0-9_]+\.py", name)], [])
        self.assertIn("__init__.py", others)

    def test_lines_and_characters(self):
        for name, text in sources():
            lines = text.split("\n")
            self.assertLessEqual(len(lines), 400, name)
            for line in lines:
                self.assertLessEqual(len(line), 120, name)
                self.assertEqual([letter for letter in line if not " " <= letter <= "~"], [], name)

    def test_functions_are_small(self):
        for name, text in sources():
            for node in ast.walk(ast.parse(text)):
                if isinstance(node, ast.FunctionDef):
                    self.assertLessEqual(node.end_lineno - node.lineno + 1, 40, f"{name} {node.name}")

    def test_imports_come_from_the_package_alone(self):
        for name, text in sources():
            for node in ast.walk(ast.parse(text)):
                self.assertFalse(isinstance(node, ast.Import) and name != "__main__.py", name)
                if isinstance(node, ast.ImportFrom) and node.module != "__future__":
                    self.assertEqual(node.level, 0, name)
                    self.assertTrue(node.module.startswith("guessmarks."), name)

    def test_barred_words(self):
        barred = re.compile(r"\b(" + "|".join(BARRED_WORDS) + r")\b|dataclass|overload|contextmanager")
        for name, text in sources():
            self.assertIsNone(barred.search(text), name)

    def test_no_float_and_no_division(self):
        for name, text in sources():
            for node in ast.walk(ast.parse(text)):
                self.assertFalse(isinstance(node, ast.Constant) and isinstance(node.value, (float, complex)), name)
                self.assertNotIsInstance(node, ast.Div, name)

    def test_names_are_imported_from_where_they_are_defined(self):
        imports = {name[:-3]: [] for name, text in sources()}
        for name, text in sources():
            for node in ast.walk(ast.parse(text)):
                if isinstance(node, ast.ImportFrom) and node.module != "__future__":
                    module = node.module.removeprefix("guessmarks.")
                    imports[name[:-3]].append(module)
                    defined = defined_names((FOLDER / f"{module}.py").read_text(encoding="utf-8"))
                    self.assertEqual([alias.name for alias in node.names if alias.name not in defined], [], name)
                    self.assertEqual([alias for alias in node.names if alias.asname], [], name)
        # Each round takes away the modules that import none of those that remain; a circle would remain for ever.
        while imports:
            ends = [name for name, others in imports.items() if not set(others) & set(imports)]
            self.assertTrue(ends, imports)
            for name in ends:
                del imports[name]

    def test_no_method_has_the_name_of_an_attribute(self):
        methods, attributes = set(), set()
        for name, text in sources():
            for node in ast.walk(ast.parse(text)):
                if isinstance(node, ast.ClassDef):
                    methods |= {part.name for part in node.body if isinstance(part, ast.FunctionDef)}
                if isinstance(node, ast.Attribute) and isinstance(node.ctx, ast.Store):
                    attributes.add(node.attr)
        self.assertEqual(methods & attributes, set())

    def test_plain_names(self):
        for name, text in sources():
            for node in ast.walk(ast.parse(text)):
                names = [getattr(node, part, None) for part in ("id", "attr", "arg", "name")]
                for found in [found for found in names if isinstance(found, str)]:
                    if not re.fullmatch(r"__[a-z]+__", found):
                        self.assertRegex(found, r"^[A-Za-z][A-Za-z0-9_]*$", name)

    def test_local_names_do_not_hide_imports_and_builtins(self):
        for name, text in sources():
            tree = ast.parse(text)
            barred = set(dir(builtins)) | {alias.name for node in ast.walk(tree) if isinstance(node, ast.ImportFrom)
                                           for alias in node.names}
            barred |= {node.name for node in ast.walk(tree) if isinstance(node, ast.ClassDef)}
            for node in ast.walk(tree):
                found = node.arg if isinstance(node, ast.arg) else None
                if isinstance(node, ast.Name) and isinstance(node.ctx, ast.Store):
                    found = node.id
                self.assertNotIn(found, barred, name)

    def test_statements_that_the_rules_bar(self):
        barred = (ast.Global, ast.AsyncFunctionDef, ast.Await, ast.Is, ast.IsNot)
        for name, text in sources():
            for node in ast.walk(ast.parse(text)):
                if isinstance(node, ast.Compare) and isinstance(node.ops[0], (ast.Is, ast.IsNot)):
                    self.assertIn(getattr(node.comparators[0], "value", 0), (None, True, False), name)
                elif not isinstance(node, (ast.Is, ast.IsNot)):
                    self.assertNotIsInstance(node, barred, name)
                if isinstance(node, ast.Constant) and isinstance(node.value, str):
                    self.assertNotIn("%", node.value, name)


def defined_names(text):
    """Return the names that a module binds by itself."""
    names = []
    for node in ast.parse(text).body:
        if isinstance(node, (ast.FunctionDef, ast.ClassDef)):
            names.append(node.name)
        elif isinstance(node, ast.Assign):
            names += [target.id for target in node.targets]
    return names


if __name__ == "__main__":
    unittest.main()
