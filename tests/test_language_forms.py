"""More rules of LANGUAGE.md, those that look at where a form stands, and at the files beside one another."""

import ast
import builtins
import tokenize
import unittest

from tests.test_language import METHODS, OWN_NAMES, trees

WALKED = ("zip", "enumerate", "reversed", "range")
WALKED_METHODS = ("items", "keys", "values")
WALKERS = ("list", "tuple", "dict", "sorted", "sum", "any", "all", "enumerate", "zip", "min", "max")
AS_KEY = ("len", "int", "str", "abs", "sum", "min", "max", "tuple")
KEYWORDS = {
    "sorted": ("key", "reverse"), "min": ("key", "default"), "max": ("key", "default"), "sum": ("start",),
    "enumerate": ("start",), "zip": ("strict",),
}
NOT_USED = set("""
    register mro elements open input version_info with_traceback add_note attrgetter breakpoint builtins compile
    copyright credits delattr dir eval exec exit gc getattr globals hasattr help id importlib license locals
    methodcaller os quit setattr super type vars sys __name__ chr format format_map
""".split())
VALUES_FREE = set("count index title find get join lower upper split strip copy add".split())
CHANGES = set("append clear extend insert pop remove reverse setdefault update".split())


def with_parents():
    for path, tree in trees():
        above = {}
        for node in ast.walk(tree):
            for child in ast.iter_child_nodes(node):
                above[child] = node
        yield path.name, tree, above


def name_of(call):
    return call.func.id if isinstance(call, ast.Call) and isinstance(call.func, ast.Name) else None


def classes_of(tree):
    return {node.name for node in tree.body if isinstance(node, ast.ClassDef)}


def imported(tree):
    return {
        (node.module, name.name) for node in tree.body if isinstance(node, ast.ImportFrom) for name in node.names
        if node.module != "__future__"
    }


def is_plain(node, functions):
    if isinstance(node, ast.Constant):
        return isinstance(node.value, (int, str, type(None)))
    if isinstance(node, ast.UnaryOp) and isinstance(node.op, ast.USub):
        return isinstance(node.operand, ast.Constant) and isinstance(node.operand.value, int)
    if isinstance(node, ast.BinOp) and isinstance(node.op, ast.Pow):
        return is_plain(node.left, ()) and is_plain(node.right, ())
    if isinstance(node, (ast.Tuple, ast.List)):
        return all(is_plain(each, functions) for each in node.elts)
    if isinstance(node, ast.Dict):
        return all(is_plain(each, functions) for each in node.keys + node.values)
    return isinstance(node, ast.Name) and node.id in functions


class TopTest(unittest.TestCase):
    def test_l3_what_stands_at_the_top(self):
        for path, tree in trees():
            functions = set()
            self.assertIsInstance(ast.get_docstring(tree), str, path.name)
            for node in tree.body[1:]:
                if isinstance(node, ast.FunctionDef):
                    functions.add(node.name)
                elif isinstance(node, ast.Assign):
                    self.assertIsInstance(node.targets[0], ast.Name, (path.name, node.lineno))
                    self.assertTrue(is_plain(node.value, functions), (path.name, node.lineno))
                else:
                    self.assertIsInstance(node, (ast.ImportFrom, ast.ClassDef), (path.name, node.lineno))

    def test_l15_each_name_once(self):
        for path, tree in trees():
            names = [name for _, name in imported(tree)]
            for node in tree.body:
                if isinstance(node, (ast.FunctionDef, ast.ClassDef)):
                    names.append(node.name)
                if isinstance(node, ast.Assign):
                    names.append(node.targets[0].id)
            self.assertEqual(len(names), len(set(names)), path.name)

    def test_l15_no_local_like_a_class_an_import_or_pythons_own(self):
        for path, tree in trees():
            taken = set(dir(builtins)) | classes_of(tree) | {name for _, name in imported(tree)}
            for node in ast.walk(tree):
                if isinstance(node, ast.arg):
                    self.assertNotIn(node.arg, taken, (path.name, node.lineno))
                if isinstance(node, ast.Name) and isinstance(node.ctx, ast.Store):
                    self.assertNotIn(node.id, taken, (path.name, node.lineno))
                if isinstance(node, ast.FunctionDef) and node in tree.body:
                    self.assertNotIn(node.name, dir(builtins), path.name)

    def test_l15_lists_and_dicts_of_the_top_are_only_read(self):
        for name, tree, above in with_parents():
            kept = {
                node.targets[0].id for node in tree.body
                if isinstance(node, ast.Assign) and isinstance(node.value, (ast.List, ast.Dict))
            }
            for node in ast.walk(tree):
                if isinstance(node, ast.Name) and node.id in kept and isinstance(node.ctx, ast.Load):
                    over = above[node]
                    fits = isinstance(over, ast.Subscript) and isinstance(over.ctx, ast.Load)
                    fits = fits or isinstance(over, (ast.Compare, ast.For, ast.comprehension))
                    fits = fits or (isinstance(over, ast.Attribute) and over.attr == "get")
                    self.assertTrue(fits, (name, node.lineno))

    def test_l16_drawn_from_where_it_is_defined_and_never_round(self):
        defined = {}
        draws = {}
        for path, tree in trees():
            module = f"turnarrows.{path.stem}"
            defined[module] = {node.name for node in tree.body if isinstance(node, (ast.FunctionDef, ast.ClassDef))}
            defined[module] |= {node.targets[0].id for node in tree.body if isinstance(node, ast.Assign)}
            draws[module] = {drawn for drawn, _ in imported(tree)}
        for path, tree in trees():
            for module, name in imported(tree):
                self.assertIn(name, defined[module], path.name)
        left = dict(draws)
        while left:
            free = [module for module, drawn in left.items() if not drawn & set(left)]
            self.assertNotEqual(free, [], sorted(left))
            for module in free:
                left.pop(module)

    def test_imports_are_used(self):
        for path, tree in trees():
            used = {node.id for node in ast.walk(tree) if isinstance(node, ast.Name)}
            for _, name in imported(tree):
                self.assertIn(name, used, path.name)


class FormsTest(unittest.TestCase):
    def test_l13_l24_sets(self):
        for name, tree, above in with_parents():
            for node in ast.walk(tree):
                self.assertNotIsInstance(node, ast.Set, name)
                if name_of(node) in ("set", "frozenset"):
                    over = above[node]
                    while isinstance(over, ast.BinOp):
                        over = above[over]
                    fits = isinstance(over, ast.Compare) or name_of(over) in ("sorted", "len")
                    self.assertTrue(fits, (name, node.lineno))

    def test_l17_l27_names(self):
        for path, tree in trees():
            for node in ast.walk(tree):
                for word in (getattr(node, "id", None), getattr(node, "attr", None), getattr(node, "arg", None)):
                    self.assertNotIn(word, NOT_USED, (path.name, getattr(node, "lineno", None)))
                if isinstance(node, (ast.FunctionDef, ast.ClassDef)):
                    self.assertNotIn(node.name, NOT_USED, path.name)

    def test_l18_classes_are_called_based_upon_or_named_by_isinstance(self):
        everywhere = {name for _, tree in trees() for name in classes_of(tree)}
        for name, tree, above in with_parents():
            for node in ast.walk(tree):
                if isinstance(node, ast.Name) and node.id in everywhere:
                    over = above[node]
                    fits = isinstance(over, ast.Call) and over.func is node
                    fits = fits or isinstance(over, (ast.ClassDef, ast.ExceptHandler, ast.Raise))
                    fits = fits or name_of(over) == "isinstance" or isinstance(over, ast.Attribute)
                    self.assertTrue(fits, (name, node.lineno))

    def test_l18_l26_methods_and_values(self):
        methods, stored = set(), set()
        for _, tree in trees():
            for node in ast.walk(tree):
                if isinstance(node, ast.ClassDef):
                    own = [each.name for each in node.body if isinstance(each, ast.FunctionDef)]
                    self.assertEqual(len(own), len(set(own)), node.name)
                    methods |= set(own)
                if isinstance(node, ast.Attribute) and isinstance(node.ctx, ast.Store):
                    stored.add(node.attr)
        theirs = set()
        for kind in (str, int, list, tuple, dict, set, bytes):
            theirs |= set(dir(kind))
        self.assertEqual(methods & stored, set())
        self.assertEqual((stored & theirs) - VALUES_FREE, set())
        plain = {method for method in methods if not method.startswith("__")}
        self.assertEqual((plain & theirs) - METHODS - {"add", "discard"}, set())

    def test_l19_no_error_of_pythons_is_taken(self):
        for path, tree in trees():
            for node in ast.walk(tree):
                if isinstance(node, ast.ExceptHandler):
                    self.assertNotIn(getattr(node.type, "id", "several"), OWN_NAMES | {"several"}, path.name)
                if isinstance(node, ast.Raise):
                    self.assertIsInstance(node.exc, ast.Call, (path.name, node.lineno))

    def test_l21_no_annotations(self):
        for path, tree in trees():
            for node in ast.walk(tree):
                self.assertNotIsInstance(node, ast.AnnAssign, path.name)
                self.assertIsNone(getattr(node, "annotation", None), path.name)
                self.assertIsNone(getattr(node, "returns", None), path.name)

    def test_l22_pythons_own_are_called(self):
        for name, tree, above in with_parents():
            for node in ast.walk(tree):
                if isinstance(node, ast.Name) and node.id in OWN_NAMES and node.id != "ValueError":
                    over = above[node]
                    fits = isinstance(over, ast.Call) and over.func is node
                    fits = fits or name_of(over) == "isinstance" or isinstance(over, ast.Tuple)
                    fits = fits or (isinstance(over, ast.keyword) and over.arg == "key" and node.id in AS_KEY)
                    self.assertTrue(fits, (name, node.lineno))
                if isinstance(node, ast.Call) and node.keywords:
                    for keyword in node.keywords:
                        self.assertIn(keyword.arg, KEYWORDS.get(name_of(node), ()), (name, node.lineno))

    def test_l23_walked_on_the_spot(self):
        for name, tree, above in with_parents():
            for node in ast.walk(tree):
                walked = name_of(node) in WALKED
                if isinstance(node, ast.Call) and isinstance(node.func, ast.Attribute):
                    walked = walked or node.func.attr in WALKED_METHODS
                if walked:
                    over = above[node]
                    fits = isinstance(over, (ast.For, ast.comprehension)) and over.iter is node
                    if name_of(over) in WALKERS:
                        fits = over.args[0] is node or name_of(over) == "zip"
                        fits = fits and (name_of(over) not in ("min", "max") or len(over.args) == 1)
                    self.assertTrue(fits, (name, node.lineno))

    def test_l23_what_is_walked_is_not_changed(self):
        for path, tree in trees():
            for loop in ast.walk(tree):
                if not isinstance(loop, ast.For):
                    continue
                walked = {ast.unparse(loop.iter)}
                if isinstance(loop.iter, ast.Call):
                    walked |= {ast.unparse(each) for each in loop.iter.args}
                    if isinstance(loop.iter.func, ast.Attribute):
                        walked.add(ast.unparse(loop.iter.func.value))
                    if name_of(loop.iter) in ("list", "sorted", "tuple"):
                        walked = set()
                for node in ast.walk(loop):
                    changed = None
                    if isinstance(node, ast.Subscript) and isinstance(node.ctx, ast.Store):
                        changed = node.value
                    if isinstance(node, ast.Call) and isinstance(node.func, ast.Attribute) and node.func.attr in CHANGES:
                        changed = node.func.value
                    if changed is not None:
                        self.assertNotIn(ast.unparse(changed), walked, (path.name, node.lineno))

    def test_l25_methods_are_called_where_they_stand(self):
        for name, tree, above in with_parents():
            for node in ast.walk(tree):
                if isinstance(node, ast.Attribute) and node.attr in METHODS and isinstance(node.ctx, ast.Load):
                    over = above[node]
                    self.assertTrue(isinstance(over, ast.Call) and over.func is node, (name, node.lineno))

    def test_l27_powers_and_escapes(self):
        for path, tree in trees():
            for node in ast.walk(tree):
                if isinstance(node, ast.BinOp) and isinstance(node.op, ast.Pow):
                    self.assertIsInstance(node.right, ast.Constant, (path.name, node.lineno))
                    self.assertIn(node.right.value, range(65), (path.name, node.lineno))
                if isinstance(node, ast.FormattedValue):
                    self.assertIsInstance(node.value, ast.Name, (path.name, node.lineno))
                    self.assertIsNone(node.format_spec, (path.name, node.lineno))
            with open(path, "rb") as file:
                for token in tokenize.tokenize(file.readline):
                    if token.type == tokenize.STRING:
                        self.assertNotRegex(token.string.replace("\\\\", ""), r"\\[^nt'\"]", path.name)

    def test_l28_no_more_than_init(self):
        for path, tree in trees():
            for node in ast.walk(tree):
                if isinstance(node, ast.FunctionDef) and node.name.startswith("__"):
                    self.assertEqual(node.name, "__init__", path.name)
                    self.assertFalse([each for each in ast.walk(node) if isinstance(each, ast.Return)], path.name)


if __name__ == "__main__":
    unittest.main()
