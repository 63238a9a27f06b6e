"""The form of the files of the package: sizes, characters, imports, names and calls."""

import ast
import builtins
import unittest
from pathlib import Path

ROOT = Path(__file__).resolve().parent.parent
PACKAGE = ROOT / "renamedown"
FILES = sorted(PACKAGE.rglob("*.py"))
TREES = {path: ast.parse(path.read_text(encoding="utf-8")) for path in FILES}
LIBRARY = {"math": {"gcd", "lcm", "isqrt", "comb", "perm", "factorial"}, "itertools": {"chain"}}
BUILTINS = set("""len range enumerate zip min max sum abs sorted reversed int str bool list tuple dict set isinstance
    ord repr any all divmod iter property classmethod staticmethod ValueError KeyError IndexError LookupError
    RuntimeError ArithmeticError OverflowError TypeError type""".split())
# Of the methods of builtin values those that the package may call.
METHODS = set("""append clear copy count endswith extend find get index insert items join keys pop remove replace
    reverse setdefault split startswith strip update values zfill add discard bit_length from_iterable""".split())
DOUBLE = set("""__init__ __eq__ __str__ __len__ __iter__ __add__ __contains__ __getitem__ __enter__ __exit__
    __call__""".split())
# Of these the ones that change the list or dict.
CHANGING = set("append clear extend insert pop remove reverse setdefault update".split())
NOWHERE = (ast.AsyncFunctionDef, ast.AsyncFor, ast.AsyncWith, ast.Await, ast.Div, ast.MatMult)
# Without `_`, which an interactive interpreter, and so a doctest, adds.
PYTHON = set(dir(builtins)) - {"_"}


def module_of(path):
    """The full name of a module of the package."""
    parts = path.relative_to(ROOT).with_suffix("").parts
    return ".".join(parts[:-1] if parts[-1] == "__init__" else parts)


def bound(tree):
    """The names that a file defines itself at module level."""
    names = []
    for node in tree.body:
        if isinstance(node, (ast.FunctionDef, ast.ClassDef)):
            names.append(node.name)
        elif isinstance(node, ast.Assign):
            names.extend(target.id for target in node.targets)
    return names


def nodes(kind):
    """All nodes of a kind with their files."""
    return [(path.name, node) for path, tree in TREES.items() for node in ast.walk(tree) if isinstance(node, kind)]


def alike_names(function):
    """The sets of names of a function that are given to one another."""
    groups = []
    for node in ast.walk(function):
        if isinstance(node, ast.Assign) and isinstance(node.value, ast.Name):
            names = {node.value.id} | {target.id for target in node.targets if isinstance(target, ast.Name)}
            for group in [group for group in groups if group & names]:
                groups.remove(group)
                names |= group
            groups.append(names)
    return groups


def walked(loop):
    """The names of what a loop walks without taking a copy."""
    if isinstance(loop, ast.Call) and getattr(loop.func, "id", "") in ("enumerate", "zip", "reversed"):
        return {name for inner in loop.args for name in walked(inner)}
    if isinstance(loop, ast.Call) and getattr(loop.func, "attr", "") in ("items", "keys", "values"):
        return walked(loop.func.value)
    return {loop.id} if isinstance(loop, ast.Name) else set()


def changed(rows):
    """The names of what is changed in rows: by a method or an item."""
    names = set()
    for node in [node for row in rows for node in ast.walk(row)]:
        if isinstance(node, ast.Call) and isinstance(node.func, ast.Attribute) and node.func.attr in CHANGING:
            names |= walked(node.func.value)
        if isinstance(node, ast.Subscript) and isinstance(node.ctx, (ast.Store, ast.Del)):
            names |= walked(node.value)
    return names


class FilesTest(unittest.TestCase):
    def test_folders_and_names(self):
        for path in PACKAGE.rglob("*"):
            if "__pycache__" not in path.parts:
                self.assertTrue(path.is_dir() or path.suffix == ".py", path)
                self.assertEqual(path.name, path.name.lower())
                self.assertTrue(path.is_file() or (path / "__init__.py").is_file(), path)

    def test_lines_and_characters(self):
        for path in FILES:
            text = path.read_text(encoding="utf-8")
            self.assertTrue(all(sign == "\n" or " " <= sign <= "~" for sign in text), path)
            self.assertTrue(all(len(line) <= 120 for line in text.split("\n")), path)
            self.assertLessEqual(text.count("\n"), 399, path)

    def test_functions_are_short(self):
        for name, node in nodes(ast.FunctionDef):
            self.assertLessEqual(node.end_lineno - node.lineno + 1, 40, (name, node.name))
            self.assertTrue(ast.get_docstring(node) or node.name in DOUBLE, (name, node.name))


class NamesTest(unittest.TestCase):
    def test_imports_name_the_file_that_defines_the_name(self):
        files = {module_of(path): bound(tree) for path, tree in TREES.items()}
        self.assertEqual(nodes(ast.Import), [])
        for name, node in nodes(ast.ImportFrom):
            self.assertEqual(node.level, 0, name)
            for one in node.names:
                self.assertIsNone(one.asname)
                known = LIBRARY.get(node.module) or files[node.module]
                self.assertIn(one.name, known, name)

    def test_each_name_is_bound_once(self):
        for path, tree in TREES.items():
            names = bound(tree) + [one.name for node in tree.body if isinstance(node, ast.ImportFrom)
                                   for one in node.names]
            self.assertEqual(len(names), len(set(names)), path)

    def test_no_name_hides_a_builtin_or_an_import(self):
        for path, tree in TREES.items():
            taken = {one.name for node in tree.body if isinstance(node, ast.ImportFrom) for one in node.names}
            taken |= {node.name for node in tree.body if isinstance(node, ast.ClassDef)} | PYTHON
            for node in ast.walk(tree):
                if isinstance(node, ast.arg):
                    self.assertNotIn(node.arg, taken, path)
                if isinstance(node, ast.Name) and isinstance(node.ctx, ast.Store):
                    self.assertNotIn(node.id, taken, path)
                if isinstance(node, ast.FunctionDef):
                    self.assertNotIn(node.name, PYTHON, path)

    def test_only_these_builtins_are_used(self):
        for name, node in nodes(ast.Name):
            if node.id in PYTHON:
                self.assertIn(node.id, BUILTINS, name)

    def test_only_these_methods_are_called(self):
        own = {node.name for _, node in nodes(ast.FunctionDef)}
        for name, node in nodes(ast.Call):
            if isinstance(node.func, ast.Attribute):
                self.assertIn(node.func.attr, METHODS | own, name)

    def test_double_underscores(self):
        for name, node in nodes(ast.FunctionDef):
            if node.name.startswith("__"):
                self.assertIn(node.name, DOUBLE, name)


class StatementsTest(unittest.TestCase):
    def test_what_stands_nowhere(self):
        for name, node in nodes(NOWHERE):
            self.fail((name, node.lineno, type(node).__name__))

    def test_sets_are_passed_to_len_and_sorted_only(self):
        for name, node in nodes(ast.Call):
            for inner in node.args:
                if isinstance(inner, ast.Call) and getattr(inner.func, "id", "") == "set":
                    self.assertIn(node.func.id, ("sorted", "len"), (name, node.lineno))

    def test_what_a_loop_walks_is_not_changed_in_it(self):
        for name, function in nodes(ast.FunctionDef):
            groups = alike_names(function)
            for loop in [node for node in ast.walk(function) if isinstance(node, ast.For)]:
                names = walked(loop.iter)
                names = names.union(*[group for group in groups if group & names])
                self.assertEqual(names & changed(loop.body), set(), (name, loop.lineno))

    def test_identity_is_asked_of_none_and_booleans_only(self):
        for name, node in nodes(ast.Compare):
            for sign, right in zip(node.ops, node.comparators):
                if isinstance(sign, (ast.Is, ast.IsNot)):
                    self.assertIsInstance(right, ast.Constant, (name, node.lineno))

    def test_exponents_are_literals(self):
        for name, node in nodes(ast.BinOp):
            if isinstance(node.op, ast.Pow):
                self.assertIsInstance(node.right, ast.Constant, (name, node.lineno))

    def test_no_percent_sign_stands_in_a_string(self):
        for name, node in nodes(ast.Constant):
            if isinstance(node.value, str):
                self.assertNotIn("%", node.value, name)
            self.assertNotIsInstance(node.value, (float, complex), name)


if __name__ == "__main__":
    unittest.main()
