"""The rules of LANGUAGE.md that can be seen by looking at the files of the package one by one."""

import ast
import re
import unittest
from pathlib import Path

PACKAGE = Path(__file__).resolve().parent.parent / "turnarrows"

STATEMENTS = (
    ast.Assign, ast.AugAssign, ast.AnnAssign, ast.If, ast.While, ast.For, ast.Return, ast.Break, ast.Continue,
    ast.Pass, ast.Raise, ast.Try, ast.Expr, ast.FunctionDef, ast.ClassDef, ast.ImportFrom, ast.Import,
)

NOT_WRITTEN = (
    ast.SetComp, ast.DictComp, ast.GeneratorExp, ast.NamedExpr, ast.Starred, ast.Await, ast.Yield, ast.YieldFrom,
    ast.Div, ast.MatMult,
)

OWN_NAMES = set("""
    len range enumerate zip min max sum abs sorted reversed int str bool list tuple dict set frozenset isinstance ord
    repr any all divmod Exception ValueError TypeError KeyError IndexError LookupError ZeroDivisionError
    ArithmeticError OverflowError RuntimeError NotImplementedError AttributeError StopIteration
""".split())

METHODS = set("""
    append clear copy count endswith extend find get index insert isalnum isalpha isdigit islower isspace isupper items
    join keys ljust lower lstrip partition pop remove replace reverse rfind rjust rpartition rsplit rstrip setdefault
    split splitlines startswith strip update upper values zfill bit_length
""".split())

NO_WORDS = re.compile(
    r"\b(type|typing|typing_extensions|enum|Enum|IntEnum|StrEnum|Flag|IntFlag|Generic|Protocol|ABC|ABCMeta|namedtuple"
    r"|NamedTuple|TypedDict|TYPE_CHECKING|abstractmethod)\b|dataclass|overload|contextmanager"
)


def files():
    return sorted(path for path in PACKAGE.rglob("*") if "__pycache__" not in path.parts)


def trees():
    return [(path, ast.parse(path.read_text(encoding="utf-8"))) for path in files() if path.suffix == ".py"]


def nodes():
    return [(path.name, node) for path, tree in trees() for node in ast.walk(tree)]


def names_bound(tree):
    bound = {node.id for node in ast.walk(tree) if isinstance(node, ast.Name) and isinstance(node.ctx, ast.Store)}
    bound |= {node.arg for node in ast.walk(tree) if isinstance(node, ast.arg)}
    bound |= {node.name for node in ast.walk(tree) if isinstance(node, (ast.FunctionDef, ast.ClassDef))}
    bound |= {node.name for node in ast.walk(tree) if isinstance(node, ast.ExceptHandler) and node.name}
    for node in ast.walk(tree):
        if isinstance(node, ast.ImportFrom):
            bound |= {name.asname or name.name for name in node.names}
    return bound


class FilesTest(unittest.TestCase):
    def test_there_are_files(self):
        names = [path.name for path in files()]
        for name in ("__init__.py", "errors.py", "kinds.py", "houses.py"):
            self.assertIn(name, names)

    def test_l1_l14_plain_names(self):
        for path in files():
            self.assertRegex(path.name, r"\A([a-z][a-z0-9_]*|__init__|__main__)\.py\Z")

    def test_l10_l14_sizes_and_signs(self):
        for path in files():
            rows = path.read_text(encoding="utf-8").split("\n")
            self.assertLessEqual(len(rows), 401, path.name)
            for number, row in enumerate(rows, start=1):
                self.assertRegex(row, r"\A[ -~]{0,120}\Z", (path.name, number))

    def test_l10_functions(self):
        for name, node in nodes():
            if isinstance(node, ast.FunctionDef):
                self.assertLessEqual(node.end_lineno - node.lineno + 1, 40, (name, node.name))

    def test_l17_words(self):
        for path in files():
            self.assertIsNone(NO_WORDS.search(path.read_text(encoding="utf-8")), path.name)


class WritingTest(unittest.TestCase):
    def test_l2_l16_imports(self):
        for name, node in nodes():
            if isinstance(node, ast.Import):
                self.assertEqual((name, [one.name for one in node.names]), ("__main__.py", ["sys"]))
            if isinstance(node, ast.ImportFrom) and node.module != "__future__":
                self.assertEqual(node.level, 0, name)
                self.assertRegex(node.module, r"\Aturnarrows\.[a-z0-9_]+\Z", name)
                self.assertNotIn("*", [one.name for one in node.names], name)

    def test_l4_l5_defs_and_classes(self):
        for name, node in nodes():
            if isinstance(node, (ast.FunctionDef, ast.ClassDef)):
                self.assertEqual(node.decorator_list, [], (name, node.name))
            if isinstance(node, ast.arguments):
                self.assertEqual((node.vararg, node.kwarg, node.kwonlyargs, node.posonlyargs), (None, None, [], []), name)
            if isinstance(node, ast.ClassDef):
                self.assertLessEqual(len(node.bases), 1, (name, node.name))

    def test_l6_statements(self):
        for name, node in nodes():
            if isinstance(node, ast.stmt):
                self.assertIsInstance(node, STATEMENTS, (name, node.lineno))
            if isinstance(node, (ast.For, ast.While)):
                self.assertEqual(node.orelse, [], (name, node.lineno))
            if isinstance(node, ast.Assign):
                self.assertEqual(len(node.targets), 1, (name, node.lineno))
                self.assertNotIsInstance(node.targets[0], (ast.Tuple, ast.List), (name, node.lineno))
            if isinstance(node, ast.Try):
                self.assertEqual(node.finalbody, [], (name, node.lineno))
                self.assertTrue(all(handler.type for handler in node.handlers), (name, node.lineno))

    def test_l7_expressions(self):
        for name, node in nodes():
            self.assertNotIsInstance(node, NOT_WRITTEN, name)
            if isinstance(node, ast.Constant):
                self.assertNotIsInstance(node.value, (float, complex, bytes), (name, node.lineno))
            if isinstance(node, ast.ListComp):
                self.assertEqual(len(node.generators), 1, (name, node.lineno))
                self.assertLessEqual(len(node.generators[0].ifs), 1, (name, node.lineno))

    def test_l8_l12_names(self):
        for path, tree in trees():
            bound = names_bound(tree)
            self.assertEqual(bound & OWN_NAMES, set(), path.name)
            free = bound | OWN_NAMES
            if path.name == "__main__.py":
                free = free | {"sys", "print", "__name__"}
            for node in ast.walk(tree):
                if isinstance(node, ast.Name):
                    self.assertIn(node.id, free, (path.name, node.lineno))
            for word in bound:
                if not (word.startswith("__") and word.endswith("__")):
                    self.assertRegex(word, r"\A[A-Za-z][A-Za-z0-9_]*\Z", path.name)

    def test_l20_is(self):
        for name, node in nodes():
            if isinstance(node, ast.Compare):
                for how, right in zip(node.ops, node.comparators):
                    if isinstance(how, (ast.Is, ast.IsNot)):
                        self.assertIsInstance(right, ast.Constant, (name, node.lineno))
                        self.assertTrue(right.value is None or isinstance(right.value, bool), (name, node.lineno))

    def test_l25_methods(self):
        own = {node.name for _, node in nodes() if isinstance(node, ast.FunctionDef)}
        for name, node in nodes():
            if name != "__main__.py" and isinstance(node, ast.Call) and isinstance(node.func, ast.Attribute):
                self.assertIn(node.func.attr, METHODS | own, (name, node.lineno))

    def test_l27_texts(self):
        for name, node in nodes():
            if isinstance(node, ast.Constant) and isinstance(node.value, str):
                self.assertNotIn("%", node.value, (name, node.lineno))


if __name__ == "__main__":
    unittest.main()
