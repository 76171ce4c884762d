"""The interface: where each name is defined, its parameters, and the examples of the document."""

import ast
import importlib
import inspect
import pathlib
import unittest

from logfolds.logsets import LogSet
from logfolds.standing import growth_holds, left, most
from logfolds.ways import ways_of

from tests.helpers import PILE, UPDOWN

PACKAGE = pathlib.Path(__file__).resolve().parent.parent / "logfolds"

FUNCTIONS = {
    "books.is_name": ["thing"],
    "books.clash_of": ["entries", "*rules"],
    "ways.is_way": ["program", "thing"],
    "ways.ways_of": ["program"],
    "ways.closed_holds": ["program", "thing"],
    "standing.standing": ["program", "place"],
    "standing.left": ["program"],
    "standing.stands": ["program", "place", "log"],
    "standing.most": ["program"],
    "standing.growth_of": ["program"],
    "standing.growth_holds": ["program", "thing"],
}
CLASSES = {
    "books.Book": {
        "__init__": ["self", "entries", "*rules"], "of": ["entries", "rules"], "read": ["text"],
        "result": ["self", "x", "y"], "is_net": ["self", "thing"], "net": ["self", "row"], "folds": ["self", "row"],
        "folded": ["self", "row", "index"], "nets": ["self", "length"], "__eq__": None, "__len__": None},
    "programs.Program": {
        "__init__": ["self", "book", "places", "starts", "ends", "*steps"],
        "of": ["book", "places", "starts", "ends", "steps"], "read": ["text"], "goes": ["self", "place", "log"],
        "after": ["self", "place", "log", "number"], "follow": ["self", "*numbers", "place", "log"],
        "states": ["self", "many"], "again": ["self"], "__add__": None, "__or__": None, "__and__": None,
        "__eq__": None},
    "logsets.LogSet": {
        "of": ["book", "*rows"], "every": ["book"], "none": ["book"], "machine": ["book", "*rows"],
        "within": ["self", "b"], "least": ["self"], "longest": ["self"], "count": ["self", "length"],
        "logs": ["self"], "parting": ["self", "b"], "__and__": None, "__or__": None, "__sub__": None,
        "__invert__": None, "__eq__": None, "__bool__": None, "__contains__": None},
}
PROPERTIES = {
    "books.Book": ["entries", "rules", "text"], "programs.Program": ["steps", "text"],
    "logsets.LogSet": ["book", "table"],
}


def found(name):
    """The module and the thing with this name."""
    file, word = name.split(".")
    module = importlib.import_module("logfolds." + file)
    return module, getattr(module, word)


def parameters(thing):
    """The names of the parameters of a function, those for any number of values with their star."""
    marks = {inspect.Parameter.VAR_POSITIONAL: "*", inspect.Parameter.VAR_KEYWORD: "**"}
    return [marks.get(each.kind, "") + each.name for each in inspect.signature(thing).parameters.values()]


class Names(unittest.TestCase):

    def test_functions(self):
        for name, wanted in FUNCTIONS.items():
            module, thing = found(name)
            self.assertEqual(thing.__module__, module.__name__)
            self.assertEqual(parameters(thing), wanted, name)

    def test_classes(self):
        for name, methods in CLASSES.items():
            module, kind = found(name)
            self.assertEqual(kind.__module__, module.__name__)
            for method, wanted in methods.items():
                self.assertTrue(method in vars(kind), (name, method))
                if wanted is not None:
                    self.assertEqual(parameters(getattr(kind, method)), wanted, (name, method))

    def test_properties(self):
        for name, words in PROPERTIES.items():
            for word in words:
                self.assertIsInstance(vars(found(name)[1])[word], property, (name, word))

    def test_defined_where_they_are_listed(self):
        for name in [*FUNCTIONS, *CLASSES]:
            file, word = name.split(".")
            body = ast.parse((PACKAGE / f"{file}.py").read_text()).body
            told = [node.name for node in body if isinstance(node, (ast.FunctionDef, ast.ClassDef))]
            self.assertTrue(word in told, name)


class Examples(unittest.TestCase):

    def test_logsets(self):
        every = LogSet.every(PILE)
        self.assertEqual(
            [every.table, ("a", "b") in every, every.count(3), (every - LogSet.of(PILE, ())).least()],
            [((True, (("a", 1), ("b", 0))), (True, (("a", 1),))), False, 4, ("a",)])

    def test_ways(self):
        self.assertEqual([way for way in ways_of(UPDOWN) if way[0] != "stays"], [
            ("above", "", 0, "a", 0), ("above", "", 0, "a", 1), ("above", "a", 0, "a", 0), ("above", "a", 0, "a", 1),
            ("above", "b", 0, "a", 0), ("above", "b", 0, "a", 1), ("turns", "a", 0, (), 1), ("turns", "a", 1, (), 1)])

    def test_standing(self):
        self.assertEqual(
            [left(UPDOWN).table, most(UPDOWN), growth_holds(UPDOWN, (1, (), ("a",)))],
            [((True, (("a", 0),)),), None, True])


if __name__ == "__main__":
    unittest.main()
