"""A part of the rules of LANGUAGE.md that can be checked by reading the files of the package."""

import ast
import pathlib
import re
import unittest

ROOT = pathlib.Path(__file__).resolve().parent.parent
PACKAGE = ROOT / "stackquotes"

BARRED_WORDS = (
    "type", "typing", "typing_extensions", "enum", "Enum", "IntEnum", "StrEnum", "Flag", "IntFlag", "Generic",
    "Protocol", "ABC", "ABCMeta", "namedtuple", "NamedTuple", "TypedDict", "TYPE_CHECKING", "abstractmethod",
)
BARRED_PARTS = ("dataclass", "overload", "contextmanager")
BARRED_NAMES = ("register", "mro", "elements", "open", "input", "law", "version_info", "with_traceback", "add_note")
BARRED_NODES = (
    ast.Global, ast.AsyncFunctionDef, ast.AsyncFor, ast.AsyncWith, ast.Await, ast.Import, ast.Div, ast.MatMult,
)
NAMED_NODES = (ast.FunctionDef, ast.ClassDef)


def package_files():
    return sorted(path for path in PACKAGE.rglob("*") if path.is_file() and "__pycache__" not in path.parts)


def read_files():
    """Return a pair (file name, text) for each file of the package."""
    return [(path.name, path.read_text(encoding="utf-8")) for path in package_files()]


def bound_names(tree):
    """Return every name that the code of the tree binds or reads."""
    names = []
    for node in ast.walk(tree):
        if isinstance(node, NAMED_NODES):
            names.append(node.name)
        elif isinstance(node, ast.Name):
            names.append(node.id)
        elif isinstance(node, ast.arg):
            names.append(node.arg)
        elif isinstance(node, ast.Attribute):
            names.append(node.attr)
        elif isinstance(node, ast.keyword) and node.arg is not None:
            names.append(node.arg)
    return names


class LanguageTest(unittest.TestCase):
    def test_files_are_python_files_with_plain_names(self):
        self.assertIn(PACKAGE / "__init__.py", package_files())
        for file, text in read_files():
            with self.subTest(file=file):
                self.assertRegex(file, r"^[a-z0-9_]+\.py$")

    def test_sizes(self):
        for file, text in read_files():
            with self.subTest(file=file):
                lines = text.split("\n")
                self.assertLessEqual(len(lines), 399)
                self.assertLessEqual(max(len(line) for line in lines), 120)
                for node in ast.walk(ast.parse(text)):
                    if isinstance(node, ast.FunctionDef):
                        self.assertLessEqual(node.end_lineno - node.lineno + 1, 40, node.name)

    def test_characters(self):
        for file, text in read_files():
            with self.subTest(file=file):
                self.assertRegex(text, r"^[ -~\n]*\Z")

    def test_barred_words(self):
        for file, text in read_files():
            with self.subTest(file=file):
                words = re.findall(r"\w+", text)
                self.assertEqual([word for word in words if word in BARRED_WORDS], [])
                self.assertEqual([part for part in BARRED_PARTS if part in text], [])

    def test_names(self):
        for file, text in read_files():
            with self.subTest(file=file):
                for name in bound_names(ast.parse(text)):
                    self.assertNotIn(name, BARRED_NAMES)
                    self.assertTrue(not name.startswith("_") or re.fullmatch(r"__[a-z]+__", name), name)

    def test_imports_come_from_the_package_by_full_names(self):
        for file, text in read_files():
            with self.subTest(file=file):
                for node in ast.walk(ast.parse(text)):
                    if isinstance(node, ast.ImportFrom):
                        self.assertEqual(node.level, 0)
                        self.assertRegex(node.module, r"^stackquotes\.[a-z_]+$")

    def test_barred_nodes(self):
        for file, text in read_files():
            with self.subTest(file=file):
                for node in ast.walk(ast.parse(text)):
                    self.assertNotIsInstance(node, BARRED_NODES)

    def test_constants(self):
        for file, text in read_files():
            with self.subTest(file=file):
                for node in ast.walk(ast.parse(text)):
                    if isinstance(node, ast.Constant):
                        self.assertNotIsInstance(node.value, (float, complex))
                        if isinstance(node.value, str):
                            self.assertNotIn("%", node.value)


if __name__ == "__main__":
    unittest.main()
