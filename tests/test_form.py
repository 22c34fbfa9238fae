"""The plainest rules of LANGUAGE.md, looked up in the files of the package."""

import ast
import builtins
import pathlib
import re
import unittest
import warnings

PACKAGE = pathlib.Path(__file__).resolve().parent.parent / "walksago"
FILES = sorted(PACKAGE.rglob("*.py"))

BARRED_WORDS = re.compile(
    r"\b(type|typing|typing_extensions|enum|Enum|IntEnum|StrEnum|Flag|IntFlag|Generic|Protocol|ABC|ABCMeta"
    r"|namedtuple|NamedTuple|TypedDict|TYPE_CHECKING|abstractmethod)\b|dataclass|overload|contextmanager"
)
BUILTINS = set(
    "len range enumerate zip min max sum abs sorted reversed int str bool bytes list tuple dict set frozenset"
    " isinstance ord repr any all divmod Exception ValueError TypeError KeyError IndexError LookupError"
    " ZeroDivisionError ArithmeticError OverflowError RuntimeError NotImplementedError AttributeError"
    " StopIteration NotImplemented super property staticmethod classmethod".split()
)
BARRED_NODES = (
    ast.Div, ast.MatMult, ast.Global, ast.AsyncFunctionDef, ast.AsyncFor, ast.AsyncWith, ast.Await, ast.Import,
)


def parsed(path):
    return ast.parse(path.read_text("utf-8"))


def names_bound(tree):
    """Every name that a file binds anywhere."""
    for node in ast.walk(tree):
        if isinstance(node, (ast.FunctionDef, ast.ClassDef)):
            yield node.name
        elif isinstance(node, ast.arg):
            yield node.arg
        elif isinstance(node, ast.alias):
            yield node.asname or node.name
        elif isinstance(node, ast.Name) and isinstance(node.ctx, ast.Store):
            yield node.id
        elif isinstance(node, ast.ExceptHandler) and node.name:
            yield node.name


class FormTest(unittest.TestCase):
    def each_file(self):
        for path in FILES:
            with self.subTest(file=str(path.relative_to(PACKAGE))):
                yield path

    def test_the_folder_holds_only_plain_files(self):
        self.assertTrue(FILES)
        for path in PACKAGE.rglob("*"):
            if "__pycache__" in path.parts:
                continue
            with self.subTest(path=str(path)):
                self.assertRegex(path.name, r"^[a-z0-9_]+(\.py)?$")
                self.assertEqual(path.is_dir(), path.suffix != ".py")
                self.assertTrue((path.parent / "__init__.py").is_file())

    def test_sizes_and_signs(self):
        for path in self.each_file():
            text = path.read_text("utf-8")
            rows = text.split("\n")
            self.assertLessEqual(len(rows), 401)
            self.assertLessEqual(max(len(row) for row in rows), 120)
            self.assertRegex(text, r"\A[ -~\n]*\Z")
            for node in ast.walk(ast.parse(text)):
                if isinstance(node, ast.FunctionDef):
                    self.assertLessEqual(node.end_lineno - node.lineno + 1, 40, node.name)

    def test_barred_words(self):
        for path in self.each_file():
            self.assertIsNone(BARRED_WORDS.search(path.read_text("utf-8")))

    def test_no_warning(self):
        for path in self.each_file():
            with warnings.catch_warnings():
                warnings.simplefilter("error")
                compile(path.read_text("utf-8"), str(path), "exec")

    def test_imports_name_modules_of_the_package(self):
        for path in self.each_file():
            for node in ast.walk(parsed(path)):
                if isinstance(node, ast.ImportFrom):
                    self.assertEqual(node.level, 0)
                    self.assertTrue(node.module.startswith("walksago."), node.module)
                    self.assertTrue((PACKAGE.parent / (node.module.replace(".", "/") + ".py")).is_file())

    def test_barred_nodes_and_values(self):
        for path in self.each_file():
            for node in ast.walk(parsed(path)):
                self.assertNotIsInstance(node, BARRED_NODES)
                if isinstance(node, ast.Constant):
                    self.assertNotIsInstance(node.value, (float, complex))
                    if isinstance(node.value, str):
                        self.assertNotIn("%", node.value)

    def test_names(self):
        for path in self.each_file():
            tree = parsed(path)
            bound = list(names_bound(tree))
            for name in bound:
                self.assertRegex(name, r"^([A-Za-z][A-Za-z0-9_]*|__[a-z]+__)$")
                self.assertFalse(hasattr(builtins, name) and not name.startswith("__"), name)
            for node in ast.walk(tree):
                if isinstance(node, ast.Name) and isinstance(node.ctx, ast.Load):
                    self.assertIn(node.id, BUILTINS | set(bound))


if __name__ == "__main__":
    unittest.main()
