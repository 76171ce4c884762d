"""The rules of the language that a small script can count (L1, L2, L5, L7, L8, L10, L14 to L19, L23, L25 to L27)."""

import ast
import builtins
import pathlib
import unittest

PACKAGE = pathlib.Path(__file__).resolve().parent.parent / "logfolds"
LIBRARY = ("heapq", "math", "itertools", "collections")
BUILTINS = (
    "len", "range", "enumerate", "zip", "min", "max", "sum", "abs", "sorted", "reversed", "int", "str", "bool", "bytes",
    "list", "tuple", "dict", "set", "isinstance", "ord", "repr", "any", "all", "divmod", "map", "iter", "next",
    "Exception", "ValueError", "TypeError", "KeyError", "IndexError", "NotImplemented")
PLAIN_METHODS = (
    "add", "append", "clear", "copy", "count", "endswith", "extend", "find", "get", "index", "insert", "items", "join", "keys",
    "pop", "remove", "replace", "reverse", "setdefault", "split", "startswith", "strip", "update", "values", "bit_length")
BARRED_NAMES = (
    "register", "mro", "elements", "open", "input", "law", "version_info", "with_traceback", "add_note", "attrgetter",
    "breakpoint", "builtins", "compile", "copyright", "credits", "delattr", "dir", "eval", "exec", "exit", "gc",
    "getattr", "globals", "hasattr", "help", "id", "importlib", "license", "locals", "methodcaller", "os", "quit",
    "setattr", "super", "type", "vars", "sys")
METHODS = (
    "__init__", "__eq__", "__len__", "__add__", "__or__", "__and__", "__sub__", "__invert__", "__bool__", "__contains__",
    "__iadd__")


def files():
    """The files of the package with their texts."""
    return [(path, path.read_bytes().decode("utf-8")) for path in sorted(PACKAGE.rglob("*.py"))]


def nodes(kinds):
    """The nodes of these kinds in all files, each with a word that tells where it stands."""
    for path, text in files():
        for node in ast.walk(ast.parse(text)):
            if isinstance(node, kinds):
                yield f"{path.name}:{getattr(node, 'lineno', 0)}", node


class Files(unittest.TestCase):

    def test_nothing_but_plain_files(self):
        found = [path for path in PACKAGE.rglob("*") if "__pycache__" not in path.parts]
        self.assertTrue(found)
        for path in found:
            self.assertEqual((path.suffix, path.parent), (".py", PACKAGE))
            self.assertEqual(path.stem, path.stem.lower())

    def test_sizes(self):
        for path, text in files():
            lines = text.split("\n")
            self.assertLessEqual(len(text.splitlines()), 399, path)
            self.assertLessEqual(max(len(line) for line in lines), 120, path)

    def test_functions(self):
        for place, node in nodes(ast.FunctionDef):
            self.assertLessEqual(node.end_lineno - node.lineno + 1, 40, place)

    def test_characters(self):
        for path, text in files():
            self.assertEqual([sign for sign in text if sign != "\n" and not " " <= sign <= "~"], [], path)
            self.assertFalse("\t" in text)


class Language(unittest.TestCase):

    def test_imports(self):
        for place, node in nodes((ast.Import, ast.ImportFrom)):
            self.assertIsInstance(node, ast.ImportFrom, place)
            self.assertEqual(node.level, 0, place)
            self.assertTrue(node.module in LIBRARY or node.module.startswith("logfolds."), place)

    def test_module_level(self):
        for path, text in files():
            for node in ast.parse(text).body:
                self.assertIsInstance(node, (ast.Expr, ast.ImportFrom, ast.FunctionDef, ast.ClassDef, ast.Assign), path)

    def test_what_is_not_used(self):
        # The language allows += and generator expressions in some places only (L5, L7); here they stand in none.
        barred = (
            ast.Global, ast.AsyncFunctionDef, ast.Await, ast.Div, ast.AnnAssign, ast.AugAssign, ast.GeneratorExp,
            ast.Nonlocal, ast.With, ast.Match, ast.NamedExpr)
        self.assertEqual([place for place, _ in nodes(barred)], [])

    def test_only_own_errors_are_caught(self):
        own = {node.name for _, node in nodes(ast.ClassDef)}
        for place, node in nodes(ast.Try):
            self.assertEqual((node.orelse, node.finalbody), ([], []), place)
            for handler in node.handlers:
                self.assertIn(handler.type.id, own, place)
        for place, node in nodes(ast.Raise):
            self.assertIsInstance(node.exc, ast.Call, place)
            self.assertIn(node.exc.func.id, own, place)

    def test_stars(self):
        # L7: behind a star of a call stand only names, attributes off a name, literals, and lists and tuples of these.
        for place, node in nodes(ast.Call):
            for part in node.args:
                if isinstance(part, ast.Starred):
                    value = part.value
                    plain = isinstance(value, ast.Name) or (
                        isinstance(value, ast.Attribute) and isinstance(value.value, ast.Name))
                    self.assertTrue(plain, place)

    def test_names_of_imports_and_classes(self):
        # L15: no parameter and no local variable has the name of a class or an import of its file.
        for path, text in files():
            tree = ast.parse(text)
            taken = {alias.name for node in ast.walk(tree) if isinstance(node, ast.ImportFrom) for alias in node.names}
            taken |= {node.name for node in ast.walk(tree) if isinstance(node, ast.ClassDef)}
            used = {node.arg for node in ast.walk(tree) if isinstance(node, ast.arg)}
            used |= {
                node.id for node in ast.walk(tree) if isinstance(node, ast.Name) and isinstance(node.ctx, ast.Store)}
            self.assertEqual(taken & used, set(), path)
            functions = {node.name for node in ast.walk(tree) if isinstance(node, ast.FunctionDef)}
            self.assertEqual((taken | used | functions) & set(BARRED_NAMES), set(), path)

    def test_all_imports_are_used_and_stand_where_they_are_defined(self):
        trees = {"logfolds." + path.stem: ast.parse(text) for path, text in files()}
        for name, tree in trees.items():
            read = {node.id for node in ast.walk(tree) if isinstance(node, ast.Name)}
            for node in tree.body:
                if isinstance(node, ast.ImportFrom):
                    self.assertLessEqual({alias.name for alias in node.names}, read, name)
                    if node.module in trees:
                        body = trees[node.module].body
                        told = {each.name for each in body if isinstance(each, (ast.FunctionDef, ast.ClassDef))}
                        told |= {each.targets[0].id for each in body if isinstance(each, ast.Assign)}
                        self.assertLessEqual({alias.name for alias in node.names}, told, name)

    def test_no_imports_go_round(self):
        waiting = {path.stem: {
            node.module.split(".")[1] for node in ast.parse(text).body
            if isinstance(node, ast.ImportFrom) and node.module.startswith("logfolds.")} for path, text in files()}
        while waiting:
            ready = [name for name, needed in waiting.items() if not needed & set(waiting)]
            self.assertTrue(ready, waiting)
            waiting = {name: needed for name, needed in waiting.items() if name not in ready}

    def test_methods(self):
        # L25, L26: a method that is called is an own one, or one of the builtin values that may be.
        own = {node.name for _, kind in nodes(ast.ClassDef) for node in kind.body if isinstance(node, ast.FunctionDef)}
        for place, node in nodes(ast.Call):
            if isinstance(node.func, ast.Attribute):
                self.assertIn(node.func.attr, {*own, *PLAIN_METHODS}, place)
                if node.func.attr not in own:
                    self.assertEqual(node.keywords, [], place)

    def test_methods_and_attributes_have_their_own_names(self):
        # L18: no name is a method and an attribute; the book of a set of logs, a property with a setter, is one (L5).
        marks = [node for _, kind in nodes(ast.ClassDef) for node in kind.body if isinstance(node, ast.FunctionDef)]
        stored = {node.attr for _, node in nodes(ast.Attribute) if isinstance(node.ctx, ast.Store)}
        self.assertEqual({node.name for node in marks} & stored, {"book"})
        # L18: an attribute that is read is assigned by some class.
        read = {node.attr for _, node in nodes(ast.Attribute) if isinstance(node.ctx, ast.Load)}
        own = {node.name for node in marks}
        self.assertLessEqual(read - own - set(PLAIN_METHODS), stored | {"setter"})

    def test_what_is_iterated_at_once_is_not_kept(self):
        # L23: zip, enumerate, reversed, range and views are not assigned, and generators are not, either.
        yielding = {
            node.name for _, node in nodes(ast.FunctionDef)
            if any(isinstance(each, (ast.Yield, ast.YieldFrom)) for each in ast.walk(node))}
        names = {"zip", "enumerate", "reversed", "range", "items", "keys", "values", "map", *yielding}
        for place, node in nodes((ast.Assign, ast.Return)):
            if isinstance(node.value, ast.Call):
                func = node.value.func
                self.assertNotIn(func.id if isinstance(func, ast.Name) else func.attr, names, place)

    def test_sets_are_not_kept_but_in_plain_names(self):
        for place, node in nodes(ast.Call):
            if isinstance(node.func, ast.Name) and node.func.id == "frozenset":
                self.fail(place)
        for place, node in nodes(ast.Return):
            self.assertNotIsInstance(node.value, (ast.Set, ast.SetComp), place)

    def test_strings(self):
        for place, node in nodes(ast.Constant):
            self.assertFalse(isinstance(node.value, float), place)
            if isinstance(node.value, str):
                self.assertFalse("%" in node.value, place)

    def test_classes(self):
        for place, node in nodes(ast.ClassDef):
            for inner in node.body:
                if isinstance(inner, ast.FunctionDef) and inner.name.startswith("__"):
                    self.assertIn(inner.name, METHODS, place)
        for place, node in nodes(ast.FunctionDef):
            for mark in node.decorator_list:
                if isinstance(mark, ast.Attribute):
                    self.assertEqual((mark.value.id, mark.attr), (node.name, "setter"), place)
                else:
                    self.assertIn(mark.id, ("property", "classmethod", "staticmethod"), place)

    def test_a_property_that_is_assigned_has_its_setter(self):
        # L5: a name is assigned only if every class that has a property of that name has its setter.
        assigned = {
            node.attr for _, node in nodes(ast.Attribute) if isinstance(node.ctx, (ast.Store, ast.Del))}
        self.assertIn("book", assigned)
        for place, kind in nodes(ast.ClassDef):
            methods = [node for node in kind.body if isinstance(node, ast.FunctionDef)]
            marks = {(node.name, ast.unparse(mark)) for node in methods for mark in node.decorator_list}
            for name in [name for name, mark in marks if mark == "property" and name in assigned]:
                self.assertIn((name, name + ".setter"), marks, place)

    def test_builtins(self):
        for path, text in files():
            tree = ast.parse(text)
            own = {alias.name for node in ast.walk(tree) if isinstance(node, ast.ImportFrom) for alias in node.names}
            own |= {node.name for node in ast.walk(tree) if isinstance(node, (ast.FunctionDef, ast.ClassDef))}
            own |= {node.arg for node in ast.walk(tree) if isinstance(node, ast.arg)}
            names = [node for node in ast.walk(tree) if isinstance(node, ast.Name)]
            own |= {node.id for node in names if isinstance(node.ctx, ast.Store)}
            self.assertEqual(own & set(dir(builtins)), set(), path)
            read = {node.id for node in names if isinstance(node.ctx, ast.Load)} - own
            self.assertLessEqual(read, {*BUILTINS, "property", "classmethod", "staticmethod"}, path)


if __name__ == "__main__":
    unittest.main()
