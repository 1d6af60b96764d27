"""A part of the rules of LANGUAGE.md that can be checked by reading the files of the package."""

import ast
import builtins
import pathlib
import re
import unittest

ROOT = pathlib.Path(__file__).resolve().parent.parent
PACKAGE = ROOT / "stackquotes"

BARRED_WORDS = (
    "type", "typing", "typing_extensions", "enum", "Enum", "IntEnum", "StrEnum", "Flag", "IntFlag", "Generic",
    "Protocol", "ABC", "ABCMeta", "namedtuple", "NamedTuple", "TypedDict", "TYPE_CHECKING", "abstractmethod",
)
BARRED_PARTS = ("dataclass", "overload", "contextmanager")
BARRED_NAMES = ("register", "mro", "elements", "open", "input", "law", "version_info", "with_traceback", "add_note")
BARRED_NODES = (
    ast.Global, ast.AsyncFunctionDef, ast.AsyncFor, ast.AsyncWith, ast.Await, ast.Import, ast.Div, ast.MatMult,
)
NAMED_NODES = (ast.FunctionDef, ast.ClassDef)


ALLOWED_BUILTINS = (
    "len", "range", "enumerate", "zip", "min", "max", "sum", "abs", "sorted", "reversed", "int", "str", "bool", "list",
    "tuple", "dict", "set", "isinstance", "ord", "repr", "any", "all", "divmod", "staticmethod", "ValueError",
    "TypeError", "LookupError", "ArithmeticError",
)
ITERATED_AT_ONCE = ("range", "zip", "enumerate", "reversed")
BUILTIN_METHODS = {name for kind in (str, int, list, tuple, dict, set, bytes) for name in dir(kind) if name[0] != "_"}
ALLOWED_METHODS = (
    "append", "clear", "copy", "count", "endswith", "extend", "find", "get", "index", "insert", "isalnum", "isalpha",
    "isdigit", "islower", "isspace", "isupper", "items", "join", "keys", "ljust", "lower", "lstrip", "partition", "pop",
    "remove", "replace", "reverse", "rfind", "rjust", "rpartition", "rsplit", "rstrip", "setdefault", "split",
    "splitlines", "startswith", "strip", "update", "upper", "values", "zfill", "bit_length", "add", "discard",
)


def package_files():
    return sorted(path for path in PACKAGE.rglob("*") if path.is_file() and "__pycache__" not in path.parts)


def read_files():
    """Return a pair (file name, text) for each file of the package."""
    return [(path.name, path.read_text(encoding="utf-8")) for path in package_files()]


def bound_names(tree):
    """Return every name that the code of the tree binds or reads."""
    names = []
    for node in ast.walk(tree):
        if isinstance(node, NAMED_NODES):
            names.append(node.name)
        elif isinstance(node, ast.Name):
            names.append(node.id)
        elif isinstance(node, ast.arg):
            names.append(node.arg)
        elif isinstance(node, ast.Attribute):
            names.append(node.attr)
        elif isinstance(node, ast.keyword) and node.arg is not None:
            names.append(node.arg)
    return names


class LanguageTest(unittest.TestCase):
    def test_files_are_python_files_with_plain_names(self):
        self.assertIn(PACKAGE / "__init__.py", package_files())
        for file, text in read_files():
            with self.subTest(file=file):
                self.assertRegex(file, r"^[a-z0-9_]+\.py$")

    def test_sizes(self):
        for file, text in read_files():
            with self.subTest(file=file):
                lines = text.split("\n")
                self.assertLessEqual(len(lines), 399)
                self.assertLessEqual(max(len(line) for line in lines), 120)
                for node in ast.walk(ast.parse(text)):
                    if isinstance(node, ast.FunctionDef):
                        self.assertLessEqual(node.end_lineno - node.lineno + 1, 40, node.name)

    def test_characters(self):
        for file, text in read_files():
            with self.subTest(file=file):
                self.assertRegex(text, r"^[ -~\n]*\Z")

    def test_barred_words(self):
        for file, text in read_files():
            with self.subTest(file=file):
                words = re.findall(r"\w+", text)
                self.assertEqual([word for word in words if word in BARRED_WORDS], [])
                self.assertEqual([part for part in BARRED_PARTS if part in text], [])

    def test_names(self):
        for file, text in read_files():
            with self.subTest(file=file):
                for name in bound_names(ast.parse(text)):
                    self.assertNotIn(name, BARRED_NAMES)
                    self.assertTrue(not name.startswith("_") or re.fullmatch(r"__[a-z]+__", name), name)

    def test_imports_come_from_the_package_by_full_names(self):
        for file, text in read_files():
            with self.subTest(file=file):
                for node in ast.walk(ast.parse(text)):
                    if isinstance(node, ast.ImportFrom):
                        self.assertEqual(node.level, 0)
                        self.assertRegex(node.module, r"^stackquotes\.[a-z_]+$")

    def test_barred_nodes(self):
        for file, text in read_files():
            with self.subTest(file=file):
                for node in ast.walk(ast.parse(text)):
                    self.assertNotIsInstance(node, BARRED_NODES)

    def test_constants(self):
        for file, text in read_files():
            with self.subTest(file=file):
                for node in ast.walk(ast.parse(text)):
                    if isinstance(node, ast.Constant):
                        self.assertNotIsInstance(node.value, (float, complex))
                        if isinstance(node.value, str):
                            self.assertNotIn("%", node.value)

    def test_names_of_builtins(self):
        for file, text in read_files():
            for node in ast.walk(ast.parse(text)):
                with self.subTest(file=file, line=getattr(node, "lineno", None)):
                    if isinstance(node, ast.Name) and hasattr(builtins, node.id):
                        self.assertIsInstance(node.ctx, ast.Load)
                        self.assertIn(node.id, ALLOWED_BUILTINS)
                    if isinstance(node, ast.arg):
                        self.assertFalse(hasattr(builtins, node.arg), node.arg)

    def test_iterators_are_not_stored(self):
        for file, text in read_files():
            for node in ast.walk(ast.parse(text)):
                if isinstance(node, (ast.Assign, ast.Return)) and isinstance(node.value, ast.Call):
                    with self.subTest(file=file, line=node.lineno):
                        self.assertNotIn(getattr(node.value.func, "id", None), ITERATED_AT_ONCE)

    def test_generator_expressions_are_lists(self):
        # Classes of the package have __eq__: any, all and the like take lists.
        for file, text in read_files():
            for node in ast.walk(ast.parse(text)):
                self.assertNotIsInstance(node, ast.GeneratorExp, file)


class NamesTest(unittest.TestCase):
    """What can only be seen from all files together."""

    def setUp(self):
        self.trees = {file.removesuffix(".py"): ast.parse(text) for file, text in read_files()}
        self.nodes = [node for tree in self.trees.values() for node in ast.walk(tree)]
        self.methods = {
            inner.name for node in self.nodes if isinstance(node, ast.ClassDef)
            for inner in node.body if isinstance(inner, ast.FunctionDef)
        }
        attributes = [node for node in self.nodes if isinstance(node, ast.Attribute)]
        self.assigned = {node.attr for node in attributes if isinstance(node.ctx, ast.Store)}
        self.read = {node.attr for node in attributes if isinstance(node.ctx, ast.Load)}

    def imports(self, file):
        """Return pairs (file, name) of what a file imports."""
        found = [node for node in self.trees[file].body if isinstance(node, ast.ImportFrom)]
        return [(node.module.split(".")[1], alias.name) for node in found for alias in node.names]

    def test_methods_and_attributes_have_different_names(self):
        self.assertEqual(self.methods & self.assigned, set())
        self.assertEqual(self.methods & BUILTIN_METHODS - set(ALLOWED_METHODS), set())

    def test_attributes_that_are_read_are_assigned(self):
        self.assertEqual(self.read - self.assigned - self.methods - set(ALLOWED_METHODS), set())

    def test_imported_names_are_defined_in_the_file_and_used(self):
        for file, tree in self.trees.items():
            used = {node.id for node in ast.walk(tree) if isinstance(node, ast.Name)}
            for source, name in self.imports(file):
                with self.subTest(file=file, name=name):
                    body = self.trees[source].body
                    defined = [node.name for node in body if isinstance(node, NAMED_NODES)]
                    defined += [node.targets[0].id for node in body if isinstance(node, ast.Assign)]
                    self.assertIn(name, defined)
                    self.assertIn(name, used)

    def test_no_file_imports_itself_through_others(self):
        done = set()
        while len(done) < len(self.trees):
            ready = {file for file in self.trees if {source for source, name in self.imports(file)} <= done} - done
            self.assertTrue(ready, set(self.trees) - done)
            done |= ready


if __name__ == "__main__":
    unittest.main()
