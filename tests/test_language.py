"""The rules of the language that a small script can count (L1, L2, L5, L8, L10, L14, L23, L27)."""

import ast
import builtins
import pathlib
import unittest

PACKAGE = pathlib.Path(__file__).resolve().parent.parent / "logfolds"
LIBRARY = ("heapq", "math", "itertools", "collections")
BUILTINS = (
    "len", "range", "enumerate", "zip", "min", "max", "sum", "abs", "sorted", "reversed", "int", "str", "bool", "bytes",
    "list", "tuple", "dict", "set", "isinstance", "ord", "repr", "any", "all", "divmod", "map", "iter", "next",
    "Exception", "ValueError", "TypeError", "KeyError", "IndexError", "NotImplemented")
METHODS = (
    "__init__", "__eq__", "__len__", "__add__", "__or__", "__and__", "__sub__", "__invert__", "__bool__", "__contains__",
    "__iadd__")


def files():
    """The files of the package with their texts."""
    return [(path, path.read_bytes().decode("utf-8")) for path in sorted(PACKAGE.rglob("*.py"))]


def nodes(kinds):
    """The nodes of these kinds in all files, each with a word that tells where it stands."""
    for path, text in files():
        for node in ast.walk(ast.parse(text)):
            if isinstance(node, kinds):
                yield f"{path.name}:{getattr(node, 'lineno', 0)}", node


class Files(unittest.TestCase):

    def test_nothing_but_plain_files(self):
        found = [path for path in PACKAGE.rglob("*") if "__pycache__" not in path.parts]
        self.assertTrue(found)
        for path in found:
            self.assertEqual((path.suffix, path.parent), (".py", PACKAGE))
            self.assertEqual(path.stem, path.stem.lower())

    def test_sizes(self):
        for path, text in files():
            lines = text.split("\n")
            self.assertLessEqual(len(text.splitlines()), 399, path)
            self.assertLessEqual(max(len(line) for line in lines), 120, path)

    def test_functions(self):
        for place, node in nodes(ast.FunctionDef):
            self.assertLessEqual(node.end_lineno - node.lineno + 1, 40, place)

    def test_characters(self):
        for path, text in files():
            self.assertEqual([sign for sign in text if sign != "\n" and not " " <= sign <= "~"], [], path)
            self.assertFalse("\t" in text)


class Language(unittest.TestCase):

    def test_imports(self):
        for place, node in nodes((ast.Import, ast.ImportFrom)):
            self.assertIsInstance(node, ast.ImportFrom, place)
            self.assertEqual(node.level, 0, place)
            self.assertTrue(node.module in LIBRARY or node.module.startswith("logfolds."), place)

    def test_module_level(self):
        for path, text in files():
            for node in ast.parse(text).body:
                self.assertIsInstance(node, (ast.Expr, ast.ImportFrom, ast.FunctionDef, ast.ClassDef, ast.Assign), path)

    def test_what_is_not_used(self):
        # The language allows += and generator expressions in some places only (L5, L7); here they stand in none.
        barred = (
            ast.Global, ast.AsyncFunctionDef, ast.Await, ast.Div, ast.Try, ast.AnnAssign, ast.AugAssign, ast.GeneratorExp)
        self.assertEqual([place for place, _ in nodes(barred)], [])

    def test_strings(self):
        for place, node in nodes(ast.Constant):
            self.assertFalse(isinstance(node.value, float), place)
            if isinstance(node.value, str):
                self.assertFalse("%" in node.value, place)

    def test_classes(self):
        for place, node in nodes(ast.ClassDef):
            for inner in node.body:
                if isinstance(inner, ast.FunctionDef) and inner.name.startswith("__"):
                    self.assertIn(inner.name, METHODS, place)
        for place, node in nodes(ast.FunctionDef):
            for mark in node.decorator_list:
                if isinstance(mark, ast.Attribute):
                    self.assertEqual((mark.value.id, mark.attr), (node.name, "setter"), place)
                else:
                    self.assertIn(mark.id, ("property", "classmethod", "staticmethod"), place)

    def test_a_property_that_is_assigned_has_its_setter(self):
        # L5: a name is assigned only if every class that has a property of that name has its setter.
        assigned = {
            node.attr for _, node in nodes(ast.Attribute) if isinstance(node.ctx, (ast.Store, ast.Del))}
        self.assertIn("book", assigned)
        for place, kind in nodes(ast.ClassDef):
            methods = [node for node in kind.body if isinstance(node, ast.FunctionDef)]
            marks = {(node.name, ast.unparse(mark)) for node in methods for mark in node.decorator_list}
            for name in [name for name, mark in marks if mark == "property" and name in assigned]:
                self.assertIn((name, name + ".setter"), marks, place)

    def test_builtins(self):
        for path, text in files():
            tree = ast.parse(text)
            own = {alias.name for node in ast.walk(tree) if isinstance(node, ast.ImportFrom) for alias in node.names}
            own |= {node.name for node in ast.walk(tree) if isinstance(node, (ast.FunctionDef, ast.ClassDef))}
            own |= {node.arg for node in ast.walk(tree) if isinstance(node, ast.arg)}
            names = [node for node in ast.walk(tree) if isinstance(node, ast.Name)]
            own |= {node.id for node in names if isinstance(node.ctx, ast.Store)}
            self.assertEqual(own & set(dir(builtins)), set(), path)
            read = {node.id for node in names if isinstance(node.ctx, ast.Load)} - own
            self.assertLessEqual(read, {*BUILTINS, "property", "classmethod", "staticmethod"}, path)


if __name__ == "__main__":
    unittest.main()
