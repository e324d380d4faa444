"""The rules of LANGUAGE.md that the code alone can show, for every file of the package."""

import ast
import os
import re
import unittest

FOLDER = os.path.join(os.path.dirname(os.path.dirname(os.path.abspath(__file__))), "limitrun")
BUILTINS = set("""
    len range enumerate zip min max sum abs sorted reversed int str bool bytes list tuple dict set frozenset isinstance ord repr any all
    divmod iter next super property staticmethod classmethod Exception ValueError TypeError KeyError IndexError LookupError ZeroDivisionError
    ArithmeticError OverflowError RuntimeError NotImplementedError AttributeError StopIteration NotImplemented
""".split())
METHODS = set("""
    append clear copy count endswith extend find get index insert isalnum isalpha isdigit islower isspace isupper items join keys ljust lower
    lstrip partition pop remove replace reverse rfind rjust rpartition rsplit rstrip setdefault split splitlines startswith strip update upper
    values zfill bit_length add discard sort title capitalize swapcase casefold center expandtabs removeprefix removesuffix rindex isascii
    isdecimal isnumeric istitle isidentifier isprintable translate maketrans encode decode hex from_bytes
""".split())
UNUSED_NAMES = set("register mro elements open input law version_info with_traceback add_note".split())
UNUSED_WORDS = set("""
    type typing typing_extensions enum Enum IntEnum StrEnum Flag IntFlag Generic Protocol ABC ABCMeta namedtuple NamedTuple TypedDict
    TYPE_CHECKING abstractmethod
""".split())
UNUSED_PARTS = ("dataclass", "overload", "contextmanager")
REFUSED_NODES = (ast.Global, ast.AsyncFunctionDef, ast.AsyncFor, ast.AsyncWith, ast.Await, ast.Import, ast.Div)
MODULE_NODES = (ast.Expr, ast.ImportFrom, ast.FunctionDef, ast.ClassDef, ast.Assign, ast.AnnAssign)


def texts_of_files():
    """The texts of all files of the package but __main__.py, by their paths."""
    texts = {}
    for folder, inner, files in os.walk(FOLDER):
        inner[:] = sorted(name for name in inner if name != "__pycache__")
        for name in sorted(files):
            if name != "__main__.py":
                with open(os.path.join(folder, name), encoding="utf-8", newline="") as file:
                    texts[os.path.relpath(os.path.join(folder, name), FOLDER)] = file.read()
    return texts


TEXTS = texts_of_files()
TREES = {path: ast.parse(text) for path, text in TEXTS.items() if path.endswith(".py")}


def bound_names(tree):
    """All names that a file binds anywhere."""
    names = set()
    for node in ast.walk(tree):
        if isinstance(node, (ast.FunctionDef, ast.ClassDef)):
            names.add(node.name)
        elif isinstance(node, ast.arg):
            names.add(node.arg)
        elif isinstance(node, ast.Name) and not isinstance(node.ctx, ast.Load):
            names.add(node.id)
        elif isinstance(node, ast.alias):
            names.add(node.asname or node.name)
        elif isinstance(node, ast.ExceptHandler) and node.name:
            names.add(node.name)
        elif isinstance(node, (ast.MatchAs, ast.MatchStar)) and node.name:
            names.add(node.name)
    return names


def defined_at_top(tree):
    """The names that a file defines at its module level."""
    names = set()
    for node in tree.body:
        if isinstance(node, (ast.FunctionDef, ast.ClassDef)):
            names.add(node.name)
        elif isinstance(node, ast.Assign):
            names.update(target.id for target in node.targets)
        elif isinstance(node, ast.AnnAssign):
            names.add(node.target.id)
    return names


def imports_of(tree):
    return [node for node in ast.walk(tree) if isinstance(node, ast.ImportFrom) and node.module != "__future__"]


def path_of(module):
    return os.path.join(*module.split(".")[1:]) + ".py"


class LanguageTest(unittest.TestCase):
    def for_each_node(self):
        for path, tree in TREES.items():
            for node in ast.walk(tree):
                yield path, node, f"{path}:{getattr(node, 'lineno', 0)}"

    def test_files(self):
        self.assertIn("__init__.py", TEXTS)
        self.assertLessEqual(len(TEXTS), 100)
        for path in TEXTS:
            self.assertRegex(path, r"^([a-z0-9_]+/)*[a-z0-9_]+\.py$")

    def test_sizes_and_characters(self):
        for path, text in TEXTS.items():
            lines = text.split("\n")
            self.assertLessEqual(len(text.splitlines()), 399, path)
            self.assertLessEqual(max(len(line) for line in lines), 120, path)
            self.assertRegex(text, r"\A[ -~\n]*\Z", path)
        for path, node, place in self.for_each_node():
            if isinstance(node, ast.FunctionDef):
                self.assertLessEqual(node.end_lineno - node.lineno + 1, 40, place)

    def test_imports(self):
        before = {}
        for path, tree in TREES.items():
            before[path] = set()
            for node in imports_of(tree):
                place = f"{path}:{node.lineno}"
                self.assertIn(node, tree.body, place)
                self.assertEqual(node.level, 0, place)
                self.assertRegex(node.module, r"^limitrun\.", place)
                self.assertIn(path_of(node.module), TREES, place)
                for name in node.names:
                    self.assertIn(name.name, defined_at_top(TREES[path_of(node.module)]), place)
                before[path].add(path_of(node.module))
        while before:
            free = [path for path in before if not before[path] & set(before)]
            self.assertTrue(free, f"these files import from each other: {sorted(before)}")
            for path in free:
                del before[path]

    def test_module_level(self):
        for path, tree in TREES.items():
            for node in tree.body:
                self.assertIsInstance(node, MODULE_NODES, f"{path}:{node.lineno}")
                if isinstance(node, ast.Expr):
                    self.assertIsInstance(node.value, ast.Constant, f"{path}:{node.lineno}")

    def test_statements_and_values(self):
        for path, node, place in self.for_each_node():
            self.assertNotIsInstance(node, REFUSED_NODES, place)
            if isinstance(node, ast.Constant):
                self.assertNotIsInstance(node.value, (float, complex), place)
                if isinstance(node.value, str):
                    self.assertNotIn("%", node.value, place)
            if isinstance(node, ast.Compare) and any(isinstance(sign, (ast.Is, ast.IsNot)) for sign in node.ops):
                for value in node.comparators:
                    self.assertIsInstance(value, ast.Constant, place)
                    self.assertIn(repr(value.value), ("None", "True", "False"), place)
            if isinstance(node, ast.Raise) and node.exc is not None:
                self.assertIsInstance(node.exc, ast.Call, place)
                self.assertIsInstance(node.exc.func, ast.Name, place)

    def test_names(self):
        for path, tree in TREES.items():
            for name in bound_names(tree):
                self.assertRegex(name, r"^([A-Za-z][A-Za-z0-9_]*|__[a-z]+__)$", path)
                self.assertNotIn(name, UNUSED_NAMES, path)
        for path, node, place in self.for_each_node():
            if isinstance(node, ast.Attribute):
                self.assertNotIn(node.attr, UNUSED_NAMES, place)
                self.assertRegex(node.attr, r"^([A-Za-z][A-Za-z0-9_]*|__init__)$", place)

    def test_each_name_means_one_thing(self):
        for path, tree in TREES.items():
            top = [name.asname or name.name for node in imports_of(tree) for name in node.names]
            classes = [node.name for node in tree.body if isinstance(node, ast.ClassDef)]
            functions = [node.name for node in tree.body if isinstance(node, ast.FunctionDef)]
            values = [target.id for node in tree.body if isinstance(node, ast.Assign) for target in node.targets]
            self.assertEqual(len(set(top + classes + functions + values)), len(top + classes + functions + values), path)
            for node in ast.walk(tree):
                inner = []
                if isinstance(node, ast.arg):
                    inner = [node.arg]
                elif isinstance(node, ast.Name) and isinstance(node.ctx, ast.Store):
                    inner = [node.id]
                elif isinstance(node, ast.FunctionDef):
                    inner = [part.name for part in ast.walk(node) if isinstance(part, ast.FunctionDef) and part != node]
                self.assertFalse(set(inner) & set(top + classes), f"{path}:{getattr(node, 'lineno', 0)}")

    def test_words(self):
        for path, text in TEXTS.items():
            self.assertFalse(set(re.findall(r"[A-Za-z0-9_]+", text)) & UNUSED_WORDS, path)
            for part in UNUSED_PARTS:
                self.assertNotIn(part, text, path)

    def test_builtins(self):
        for path, tree in TREES.items():
            known = bound_names(tree) | BUILTINS
            for node in ast.walk(tree):
                if isinstance(node, ast.Name):
                    self.assertIn(node.id, known, f"{path}:{node.lineno}")
            self.assertFalse({name for name in bound_names(tree) if name in BUILTINS}, path)

    def test_methods_and_attributes(self):
        methods, attributes = set(), set()
        for path, node, place in self.for_each_node():
            if isinstance(node, ast.ClassDef):
                methods.update(part.name for part in node.body if isinstance(part, ast.FunctionDef))
            if isinstance(node, ast.Attribute) and isinstance(node.ctx, ast.Store):
                attributes.add(node.attr)
        self.assertFalse((methods & attributes) - {"__init__"})
        for path, node, place in self.for_each_node():
            if isinstance(node, ast.Call) and isinstance(node.func, ast.Attribute):
                self.assertIn(node.func.attr, METHODS | methods | attributes | {"__init__"}, place)


if __name__ == "__main__":
    unittest.main()
