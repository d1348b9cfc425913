"""The package keeps to the rules of ../shared/LANGUAGE.md that a plain look at its files can tell."""

import ast
import builtins
import pathlib
import re
import unittest

PACKAGE = pathlib.Path(__file__).resolve().parent.parent / "checkrows"
FILES = sorted(path for path in PACKAGE.iterdir() if path.name != "__pycache__")

ALLOWED_BUILTINS = set("""
    len range enumerate zip min max sum abs sorted reversed int str bool bytes list tuple dict set frozenset
    isinstance ord repr any all divmod iter next ValueError KeyError IndexError LookupError ZeroDivisionError
""".split())
BARRED_WORDS = set("""
    type typing typing_extensions enum Enum IntEnum StrEnum Flag IntFlag Generic Protocol ABC ABCMeta
    namedtuple NamedTuple TypedDict TYPE_CHECKING abstractmethod
""".split())
BARRED_NAMES = set("register mro elements open input version_info with_traceback add_note".split())
BARRED_NODES = (
    ast.Global, ast.AsyncFunctionDef, ast.AsyncFor, ast.AsyncWith, ast.Await, ast.Div, ast.Import, ast.MatMult,
)


def trees():
    for path in FILES:
        yield path.name, ast.parse(path.read_text())


def bound_names(tree):
    for node in ast.walk(tree):
        if isinstance(node, ast.Name) and isinstance(node.ctx, ast.Store):
            yield node.id
        elif isinstance(node, ast.arg):
            yield node.arg
        elif isinstance(node, (ast.FunctionDef, ast.ClassDef)):
            yield node.name


class Language(unittest.TestCase):
    def test_the_folder_holds_plain_files_alone(self):
        for path in FILES:
            self.assertRegex(path.name, r"^[a-z0-9_]+\.py$")

    def test_signs_and_sizes(self):
        for path in FILES:
            rows = path.read_bytes().decode("ascii").split("\n")
            self.assertLessEqual(len(rows), 400, path.name)
            for row in rows:
                self.assertRegex(row, r"^[ -~]{0,120}$", path.name)

    def test_barred_words(self):
        for path in FILES:
            words = set(re.findall(r"\w+", path.read_text()))
            self.assertEqual(words & BARRED_WORDS, set(), path.name)

    def test_imports(self):
        for name, tree in trees():
            for node in ast.walk(tree):
                if isinstance(node, ast.ImportFrom):
                    self.assertRegex(node.module, r"^checkrows\.\w+$", name)
                    self.assertEqual(node.level, 0, name)
                    self.assertIn(node, tree.body, name)
                    defined = set(bound_names(ast.parse((PACKAGE / (node.module[10:] + ".py")).read_text())))
                    self.assertLessEqual({alias.name for alias in node.names}, defined, name)

    def test_barred_nodes(self):
        for name, tree in trees():
            for node in ast.walk(tree):
                self.assertNotIsInstance(node, BARRED_NODES, name)
                if isinstance(node, ast.Constant):
                    self.assertNotIsInstance(node.value, (float, complex), name)
                    self.assertNotIn("%", str(node.value), name)
                if isinstance(node, ast.BinOp) and isinstance(node.op, ast.Pow):
                    self.assertIsInstance(node.right, ast.Constant, name)

    def test_small_functions(self):
        for name, tree in trees():
            for node in ast.walk(tree):
                if isinstance(node, ast.FunctionDef):
                    self.assertLessEqual(node.end_lineno - node.lineno + 1, 40, (name, node.name))

    def test_names(self):
        for name, tree in trees():
            imported = [a.name for node in ast.walk(tree) if isinstance(node, ast.ImportFrom) for a in node.names]
            for bound in bound_names(tree):
                if bound == "__init__":
                    continue
                self.assertFalse(bound.startswith("_"), (name, bound))
                self.assertFalse(hasattr(builtins, bound), (name, bound))
                self.assertNotIn(bound, BARRED_NAMES, name)
                self.assertNotIn(bound, imported, name)

    def test_methods_and_attributes_are_called_otherwise(self):
        methods, kept = set(), set()
        for name, tree in trees():
            for node in ast.walk(tree):
                if isinstance(node, ast.ClassDef):
                    methods |= {part.name for part in node.body if isinstance(part, ast.FunctionDef)}
                if isinstance(node, ast.Attribute) and isinstance(node.ctx, ast.Store):
                    kept.add(node.attr)
        self.assertEqual(methods & kept, set())
        for word in methods | kept:
            for kind in [str, int, list, dict, set, bytes]:
                self.assertFalse(word != "__init__" and hasattr(kind, word), word)

    def test_no_two_files_import_from_each_other(self):
        needs = {}
        for name, tree in trees():
            needs[name[:-3]] = {node.module[10:] for node in ast.walk(tree) if isinstance(node, ast.ImportFrom)}
        while needs:
            free = [name for name in needs if not needs[name] & set(needs)]
            self.assertNotEqual(free, [], sorted(needs))
            for name in free:
                del needs[name]

    def test_builtins(self):
        for name, tree in trees():
            for node in ast.walk(tree):
                if isinstance(node, ast.Name) and hasattr(builtins, node.id):
                    self.assertIn(node.id, ALLOWED_BUILTINS, name)

    def test_module_level(self):
        for name, tree in trees():
            for node in tree.body:
                plain = isinstance(node, (ast.ImportFrom, ast.FunctionDef, ast.ClassDef, ast.Assign))
                told = isinstance(node, ast.Expr) and isinstance(node.value, ast.Constant)
                self.assertTrue(plain or told, (name, node.lineno))
