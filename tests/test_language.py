"""The rules of the language that a small script can count (L1, L2, L5, L7, L8, L10, L14 to L19, L23, L25 to L28)."""

import ast
import builtins
import pathlib
import unittest

PACKAGE = pathlib.Path(__file__).resolve().parent.parent / "logfolds"
LIBRARY = ("heapq", "math", "itertools", "collections")
BUILTINS = (
    "len", "range", "enumerate", "zip", "min", "max", "sum", "abs", "sorted", "reversed", "int", "str", "bool", "bytes",
    "list", "tuple", "dict", "set", "isinstance", "ord", "repr", "any", "all", "divmod", "map", "iter", "next",
    "Exception", "ValueError", "TypeError", "KeyError", "IndexError", "NotImplemented")
PLAIN_METHODS = (
    "add", "append", "clear", "copy", "count", "endswith", "extend", "find", "get", "index", "insert", "items", "join", "keys",
    "pop", "remove", "replace", "reverse", "setdefault", "split", "startswith", "strip", "update", "values", "bit_length")
BARRED_NAMES = (
    "register", "mro", "elements", "open", "input", "law", "version_info", "with_traceback", "add_note", "attrgetter",
    "breakpoint", "builtins", "compile", "copyright", "credits", "delattr", "dir", "eval", "exec", "exit", "gc",
    "getattr", "globals", "hasattr", "help", "id", "importlib", "license", "locals", "methodcaller", "os", "quit",
    "setattr", "super", "type", "vars", "sys")
METHODS = (
    "__init__", "__eq__", "__len__", "__add__", "__or__", "__and__", "__sub__", "__invert__", "__bool__", "__contains__",
    "__iadd__")


def files():
    """The files of the package with their texts."""
    return [(path, path.read_bytes().decode("utf-8")) for path in sorted(PACKAGE.rglob("*.py"))]


def nodes(kinds):
    """The nodes of these kinds in all files, each with a word that tells where it stands."""
    for path, text in files():
        for node in ast.walk(ast.parse(text)):
            if isinstance(node, kinds):
                yield f"{path.name}:{getattr(node, 'lineno', 0)}", node


def methods_of(kind):
    """The methods of a class, its properties among them."""
    return [node for node in kind.body if isinstance(node, ast.FunctionDef)]


def marked_names(kind, word):
    """The names of the methods of a class with a mark whose last word is this."""
    return {
        node.name for node in methods_of(kind)
        if word in [ast.unparse(mark).split(".")[-1] for mark in node.decorator_list]}


def property_names(kind):
    """The names of the properties of a class."""
    return marked_names(kind, "property")


def setter_names(kind):
    """The names of the properties of a class that have a setter."""
    return marked_names(kind, "setter")


def is_assigned(node):
    """Whether a node of a tree is an attribute that is assigned or deleted."""
    return isinstance(node, ast.Attribute) and isinstance(node.ctx, (ast.Store, ast.Del))


def is_about_a_property(node):
    """Whether a method is a property or its setter: it runs without being called."""
    return any(ast.unparse(mark).split(".")[-1] in ("property", "setter") for mark in node.decorator_list)


def changes_nothing(node):
    """Whether a method is one of those that L5 and L28 let change nothing: operators, properties, and their like."""
    is_signed = node.name.startswith("__") and node.name not in ("__init__", "__iadd__")
    return is_signed or any(ast.unparse(mark) == "property" for mark in node.decorator_list)


def run_in(node, functions, methods, creators):
    """The functions and methods that a function runs, as far as the names that stand in it can tell."""
    found = []
    for part in ast.walk(node):
        if isinstance(part, ast.Call) and isinstance(part.func, ast.Name):
            name = part.func.id
            found += [other for other in functions if other.name == name] + creators.get(name, [])
        if isinstance(part, ast.Call) and isinstance(part.func, ast.Attribute):
            found += [other for other in methods if other.name == part.func.attr]
        if isinstance(part, ast.Attribute):
            found += [other for other in methods if other.name == part.attr and is_about_a_property(other)]
    return found


def run_by_operators(trees):
    """The functions and methods that operators and properties run, by their names, and these themselves."""
    functions = [node for tree in trees for node in tree.body if isinstance(node, ast.FunctionDef)]
    kinds = [node for tree in trees for node in tree.body if isinstance(node, ast.ClassDef)]
    methods = [node for kind in kinds for node in methods_of(kind)]
    creators = {kind.name: [node for node in methods_of(kind) if node.name == "__init__"] for kind in kinds}
    # In a class method, "cls" stands for any class that can be meant.
    creators["cls"] = [node for node in methods if node.name == "__init__"]
    run = [node for node in methods if changes_nothing(node)]
    for node in run:
        for other in run_in(node, functions, methods, creators):
            if other not in run:
                run.append(other)
    return run


def assignments_in(node):
    """The assignments of attributes in a function, but for those of an object that its __init__ creates."""
    found = [ast.unparse(part) for part in ast.walk(node) if is_assigned(part)]
    return [f"{node.name}: {name}" for name in found if node.name != "__init__" or not name.startswith("self.")]


class Files(unittest.TestCase):

    def test_nothing_but_plain_files(self):
        found = [path for path in PACKAGE.rglob("*") if "__pycache__" not in path.parts]
        self.assertTrue(found)
        for path in found:
            self.assertEqual((path.suffix, path.parent), (".py", PACKAGE))
            self.assertEqual(path.stem, path.stem.lower())

    def test_sizes(self):
        for path, text in files():
            lines = text.split("\n")
            self.assertLessEqual(len(text.splitlines()), 399, path)
            self.assertLessEqual(max(len(line) for line in lines), 120, path)

    def test_functions(self):
        for place, node in nodes(ast.FunctionDef):
            self.assertLessEqual(node.end_lineno - node.lineno + 1, 40, place)

    def test_characters(self):
        for path, text in files():
            self.assertEqual([sign for sign in text if sign != "\n" and not " " <= sign <= "~"], [], path)
            self.assertFalse("\t" in text)


class Language(unittest.TestCase):

    def test_imports(self):
        for place, node in nodes((ast.Import, ast.ImportFrom)):
            self.assertIsInstance(node, ast.ImportFrom, place)
            self.assertEqual(node.level, 0, place)
            self.assertTrue(node.module in LIBRARY or node.module.startswith("logfolds."), place)

    def test_module_level(self):
        for path, text in files():
            for node in ast.parse(text).body:
                self.assertIsInstance(node, (ast.Expr, ast.ImportFrom, ast.FunctionDef, ast.ClassDef, ast.Assign), path)

    def test_what_is_not_used(self):
        # The language allows += and generator expressions in some places only (L5, L7); here they stand in none.
        barred = (
            ast.Global, ast.AsyncFunctionDef, ast.Await, ast.Div, ast.AnnAssign, ast.AugAssign, ast.GeneratorExp,
            ast.Nonlocal, ast.With, ast.Match, ast.NamedExpr)
        self.assertEqual([place for place, _ in nodes(barred)], [])

    def test_only_own_errors_are_caught(self):
        own = {node.name for _, node in nodes(ast.ClassDef)}
        for place, node in nodes(ast.Try):
            self.assertEqual((node.orelse, node.finalbody), ([], []), place)
            for handler in node.handlers:
                self.assertIn(handler.type.id, own, place)
        for place, node in nodes(ast.Raise):
            self.assertIsInstance(node.exc, ast.Call, place)
            self.assertIn(node.exc.func.id, own, place)

    def test_stars(self):
        # L7: behind a star of a call stand only names, attributes off a name, literals, and lists and tuples of these.
        for place, node in nodes(ast.Call):
            for part in node.args:
                if isinstance(part, ast.Starred):
                    value = part.value
                    plain = isinstance(value, ast.Name) or (
                        isinstance(value, ast.Attribute) and isinstance(value.value, ast.Name))
                    self.assertTrue(plain, place)

    def test_names_of_imports_and_classes(self):
        # L15: no parameter and no local variable has the name of a class or an import of its file.
        for path, text in files():
            tree = ast.parse(text)
            taken = {alias.name for node in ast.walk(tree) if isinstance(node, ast.ImportFrom) for alias in node.names}
            taken |= {node.name for node in ast.walk(tree) if isinstance(node, ast.ClassDef)}
            used = {node.arg for node in ast.walk(tree) if isinstance(node, ast.arg)}
            used |= {
                node.id for node in ast.walk(tree) if isinstance(node, ast.Name) and isinstance(node.ctx, ast.Store)}
            self.assertEqual(taken & used, set(), path)
            functions = {node.name for node in ast.walk(tree) if isinstance(node, ast.FunctionDef)}
            self.assertEqual((taken | used | functions) & set(BARRED_NAMES), set(), path)

    def test_all_imports_are_used_and_stand_where_they_are_defined(self):
        trees = {"logfolds." + path.stem: ast.parse(text) for path, text in files()}
        for name, tree in trees.items():
            read = {node.id for node in ast.walk(tree) if isinstance(node, ast.Name)}
            for node in tree.body:
                if isinstance(node, ast.ImportFrom):
                    self.assertLessEqual({alias.name for alias in node.names}, read, name)
                    if node.module in trees:
                        body = trees[node.module].body
                        told = {each.name for each in body if isinstance(each, (ast.FunctionDef, ast.ClassDef))}
                        told |= {each.targets[0].id for each in body if isinstance(each, ast.Assign)}
                        self.assertLessEqual({alias.name for alias in node.names}, told, name)

    def test_no_imports_go_round(self):
        waiting = {path.stem: {
            node.module.split(".")[1] for node in ast.parse(text).body
            if isinstance(node, ast.ImportFrom) and node.module.startswith("logfolds.")} for path, text in files()}
        while waiting:
            ready = [name for name, needed in waiting.items() if not needed & set(waiting)]
            self.assertTrue(ready, waiting)
            waiting = {name: needed for name, needed in waiting.items() if name not in ready}

    def test_methods(self):
        # L25, L26: a method that is called is an own one, or one of the builtin values that may be.
        own = {node.name for _, kind in nodes(ast.ClassDef) for node in kind.body if isinstance(node, ast.FunctionDef)}
        for place, node in nodes(ast.Call):
            if isinstance(node.func, ast.Attribute):
                self.assertIn(node.func.attr, {*own, *PLAIN_METHODS}, place)
                if node.func.attr not in own:
                    self.assertEqual(node.keywords, [], place)

    def test_methods_and_attributes_have_their_own_names(self):
        # L18: no name is a method, or a property, and an attribute.
        marks = [node for _, kind in nodes(ast.ClassDef) for node in kind.body if isinstance(node, ast.FunctionDef)]
        stored = {node.attr for _, node in nodes(ast.Attribute) if isinstance(node.ctx, ast.Store)}
        self.assertEqual({node.name for node in marks} & stored, set())
        # L18: an attribute that is read is assigned by some class.
        read = {node.attr for _, node in nodes(ast.Attribute) if isinstance(node.ctx, ast.Load)}
        own = {node.name for node in marks}
        self.assertLessEqual(read - own - set(PLAIN_METHODS), stored)

    def test_what_is_iterated_at_once_is_not_kept(self):
        # L23: zip, enumerate, reversed, range and views are not assigned, and generators are not, either.
        yielding = {
            node.name for _, node in nodes(ast.FunctionDef)
            if any(isinstance(each, (ast.Yield, ast.YieldFrom)) for each in ast.walk(node))}
        names = {"zip", "enumerate", "reversed", "range", "items", "keys", "values", "map", *yielding}
        for place, node in nodes((ast.Assign, ast.Return)):
            if isinstance(node.value, ast.Call):
                func = node.value.func
                self.assertNotIn(func.id if isinstance(func, ast.Name) else func.attr, names, place)

    def test_sets_are_not_kept_but_in_plain_names(self):
        for place, node in nodes(ast.Call):
            if isinstance(node.func, ast.Name) and node.func.id == "frozenset":
                self.fail(place)
        for place, node in nodes(ast.Return):
            self.assertNotIsInstance(node.value, (ast.Set, ast.SetComp), place)

    def test_strings(self):
        for place, node in nodes(ast.Constant):
            self.assertFalse(isinstance(node.value, float), place)
            if isinstance(node.value, str):
                self.assertFalse("%" in node.value, place)

    def test_classes(self):
        for place, node in nodes(ast.ClassDef):
            for inner in node.body:
                if isinstance(inner, ast.FunctionDef) and inner.name.startswith("__"):
                    self.assertIn(inner.name, METHODS, place)
        for place, node in nodes(ast.FunctionDef):
            for mark in node.decorator_list:
                self.assertIn(mark.id, ("property", "classmethod", "staticmethod"), place)

    def test_no_property_is_assigned(self):
        # L5 wants a setter in each class with a property of a name that is assigned; by L28 no operator may run one.
        assigned = {node.attr for _, node in nodes(ast.Attribute) if is_assigned(node)}
        self.assertIn("book", assigned)
        own = {name for _, kind in nodes(ast.ClassDef) for name in property_names(kind)}
        self.assertIn("table", own)
        self.assertEqual(assigned & own, set())
        self.assertEqual([place for place, kind in nodes(ast.ClassDef) if setter_names(kind)], [])

    def test_the_book_is_set_once_when_an_object_is_created(self):
        creations = [
            node for _, kind in nodes(ast.ClassDef) for part in kind.body
            if isinstance(part, ast.FunctionDef) and part.name == "__init__"
            for node in ast.walk(part) if is_assigned(node) and node.attr == "book"]
        self.assertEqual([ast.unparse(node) for node in creations], ["self.book", "self.book"])
        everywhere = [node for _, node in nodes(ast.Attribute) if is_assigned(node) and node.attr == "book"]
        self.assertEqual(len(everywhere), len(creations))

    def test_what_operators_run_assigns_nothing(self):
        # L5, L28: what operators and properties run, by its names, assigns attributes of objects it creates alone.
        trees = [ast.parse(text) for _, text in files()]
        run = run_by_operators(trees)
        names = [node.name for node in run]
        for name in ("__add__", "__or__", "__and__", "__init__", "check_steps", "table_of", "is_entry", "text"):
            self.assertIn(name, names)
        self.assertEqual([flaw for node in run for flaw in assignments_in(node)], [])

    def test_an_assigned_property_is_found(self):
        source = """
class Box:
    def __init__(self, rows):
        self.rows = rows
    def __add__(self, other):
        return made(self)
class Shelf:
    @property
    def rows(self):
        return self._rows
    @rows.setter
    def rows(self, value):
        self._rows = value
def made(box):
    return Box(box.rows)
"""
        tree = ast.parse(source)
        box, shelf, _ = tree.body
        self.assertEqual((property_names(box), property_names(shelf), setter_names(shelf)), (set(), {"rows"}, {"rows"}))
        found = [flaw for node in run_by_operators([tree]) for flaw in assignments_in(node)]
        self.assertEqual(found, ["rows: self._rows"])
        for old in ("def __add__", "made(self)"):
            tree = ast.parse(source.replace(old, old.replace("__add__", "plus").replace("made", "print")))
            self.assertEqual([flaw for node in run_by_operators([tree]) for flaw in assignments_in(node)], [])

    def test_builtins(self):
        for path, text in files():
            tree = ast.parse(text)
            own = {alias.name for node in ast.walk(tree) if isinstance(node, ast.ImportFrom) for alias in node.names}
            own |= {node.name for node in ast.walk(tree) if isinstance(node, (ast.FunctionDef, ast.ClassDef))}
            own |= {node.arg for node in ast.walk(tree) if isinstance(node, ast.arg)}
            names = [node for node in ast.walk(tree) if isinstance(node, ast.Name)]
            own |= {node.id for node in names if isinstance(node.ctx, ast.Store)}
            self.assertEqual(own & set(dir(builtins)), set(), path)
            read = {node.id for node in names if isinstance(node.ctx, ast.Load)} - own
            self.assertLessEqual(read, {*BUILTINS, "property", "classmethod", "staticmethod"}, path)


if __name__ == "__main__":
    unittest.main()
