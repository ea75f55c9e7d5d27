"""The package keeps to the small part of Python that it is written in (those rules that are seen at a glance)."""

import ast
import builtins
import pathlib
import re
import unittest

PACKAGE = pathlib.Path(__file__).resolve().parent.parent / "crewshifts"
FILES = sorted(path for path in PACKAGE.rglob("*") if path.is_file() and "__pycache__" not in path.parts)

OUT = (ast.Import, ast.With, ast.Match, ast.Delete, ast.Global, ast.Nonlocal, ast.Assert, ast.Yield,
       ast.YieldFrom, ast.AsyncFunctionDef, ast.Await, ast.Div, ast.SetComp, ast.DictComp, ast.GeneratorExp,
       ast.NamedExpr, ast.Starred, ast.AnnAssign, ast.Pow)
OWN_NAMES = {"len", "range", "min", "max", "sum", "abs", "sorted", "reversed", "list", "tuple", "dict", "set", "any",
             "all", "enumerate", "zip", "divmod"}
METHODS = {"append", "extend", "get"}
WORDS = ("type", "typing", "enum", "Enum", "Flag", "Generic", "Protocol", "ABC", "namedtuple", "NamedTuple")


def imports(tree):
    return [node for node in ast.walk(tree) if isinstance(node, ast.ImportFrom)]


def bound_at_top(tree):
    """The names of functions, classes and plain values that a file defines itself."""
    names = {node.name for node in tree.body if isinstance(node, (ast.FunctionDef, ast.ClassDef))}
    return names | {node.targets[0].id for node in tree.body if isinstance(node, ast.Assign)}


def circle(drawn):
    """The files that are left when those that draw from none of the others are taken away, or None."""
    left = set(drawn)
    while left:
        free = {module for module in left if not left & set(drawn[module])}
        if not free:
            return left
        left -= free
    return None


class Language(unittest.TestCase):
    def trees(self):
        for path in FILES:
            yield path, ast.parse(path.read_text(encoding="ascii"))

    def test_files(self):
        names = ["__init__.py", "fewest.py", "persons.py", "plan.py", "rows.py", "state.py"]
        self.assertEqual([path.name for path in FILES], names)

    def test_size_and_signs(self):
        for path in FILES:
            text = path.read_text(encoding="utf-8")
            rows = text.split("\n")
            self.assertLessEqual(len(rows), 401, path)
            self.assertLessEqual(max(len(row) for row in rows), 120, path)
            self.assertIsNone(re.search(r"[^ -~\n]", text), path)
            for word in WORDS:
                self.assertIsNone(re.search(rf"\b{word}\b", text), (path, word))

    def test_functions_are_short(self):
        for path, tree in self.trees():
            for node in ast.walk(tree):
                if isinstance(node, ast.FunctionDef):
                    self.assertLessEqual(node.end_lineno - node.lineno + 1, 40, (path, node.name))

    def test_nothing_that_is_out(self):
        for path, tree in self.trees():
            for node in ast.walk(tree):
                self.assertNotIsInstance(node, OUT, (path, getattr(node, "lineno", None)))
                if isinstance(node, ast.Assign):
                    self.assertEqual(len(node.targets), 1)
                if isinstance(node, (ast.For, ast.While)):
                    self.assertEqual(node.orelse, [])
                if isinstance(node, (ast.FunctionDef, ast.ClassDef)):
                    self.assertEqual(node.decorator_list, [])

    def test_only_the_packages_own_is_imported(self):
        defined = {}
        drawn = {}
        for path, tree in self.trees():
            defined["crewshifts." + path.stem] = bound_at_top(tree)
            drawn["crewshifts." + path.stem] = imports(tree)
        for module, nodes in drawn.items():
            for node in nodes:
                self.assertEqual(node.level, 0, module)
                for alias in node.names:
                    self.assertIn(alias.name, defined.get(node.module, ()), (module, node.lineno))
                    self.assertIsNone(alias.asname, (module, node.lineno))
        self.assertIsNone(circle({module: [node.module for node in nodes] for module, nodes in drawn.items()}))

    def test_imported_names_are_used_and_not_bound_again(self):
        for path, tree in self.trees():
            drawn = {alias.name for node in imports(tree) for alias in node.names}
            names = [node for node in ast.walk(tree) if isinstance(node, ast.Name)]
            self.assertEqual(drawn - {node.id for node in names}, set(), path)
            taken = {node.id for node in names if isinstance(node.ctx, ast.Store)}
            taken |= {node.arg for node in ast.walk(tree) if isinstance(node, ast.arg)}
            self.assertEqual(taken & (drawn | set(dir(builtins))), set(), path)

    def test_names_that_are_called(self):
        for path, tree in self.trees():
            own = {node.name for node in ast.walk(tree) if isinstance(node, (ast.FunctionDef, ast.ClassDef))}
            own |= {alias.name for node in imports(tree) for alias in node.names}
            for node in ast.walk(tree):
                if isinstance(node, ast.Call):
                    if isinstance(node.func, ast.Name):
                        self.assertIn(node.func.id, own | OWN_NAMES, (path, node.lineno))
                    else:
                        self.assertIn(node.func.attr, METHODS, (path, node.lineno))


if __name__ == "__main__":
    unittest.main()
