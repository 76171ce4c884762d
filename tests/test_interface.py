"""The interface: where each name is defined, its parameters, and the examples of the document."""

import ast
import importlib
import inspect
import pathlib
import unittest

from logfolds.books import Book, clash_of
from logfolds.console import Console
from logfolds.ends import endings, fewest, trap, unclear_log
from logfolds.logsets import LogSet
from logfolds.meanings import Meaning, rules_that_fit
from logfolds.programs import Program
from logfolds.roads import length_of, road, run_of
from logfolds.settled import Forwarder, held
from logfolds.standing import growth_holds, left, most
from logfolds.ways import ways_of

from tests.helpers import PILE, UPDOWN

PACKAGE = pathlib.Path(__file__).resolve().parent.parent / "logfolds"

FUNCTIONS = {
    "books.is_name": ["thing"],
    "books.clash_of": ["entries", "*rules"],
    "ways.is_way": ["program", "thing"],
    "ways.ways_of": ["program"],
    "ways.closed_holds": ["program", "thing"],
    "standing.standing": ["program", "place"],
    "standing.left": ["program"],
    "standing.stands": ["program", "place", "log"],
    "standing.most": ["program"],
    "standing.growth_of": ["program"],
    "standing.growth_holds": ["program", "thing"],
    "roads.road": ["program", "place", "log"],
    "roads.road_holds": ["program", "place", "log", "thing"],
    "roads.length_of": ["road"],
    "roads.step_at": ["road", "index"],
    "roads.run_of": ["road", "most="],
    "fences.fence": ["program", "place", "log"],
    "fences.fence_holds": ["program", "place", "log", "thing"],
    "ends.endings": ["program", "place", "goal"],
    "ends.can_end": ["program", "place", "log", "goal"],
    "ends.fewest": ["program", "place", "log", "goal"],
    "ends.ending_run": ["program", "place", "log", "goal", "most="],
    "ends.trap": ["program"],
    "ends.stuck_state": ["program"],
    "ends.unclear_log": ["program", "other"],
    "settled.settled": ["program", "place", "log"],
    "settled.held": ["program"],
    "settled.holding": ["program", "many"],
    "meanings.rules_that_fit": ["condition_count", "**deeds"],
    "findings.finding_holds": ["thing"],
}
CLASSES = {
    "books.Book": {
        "__init__": ["self", "entries", "*rules"], "of": ["entries", "rules"], "read": ["text"],
        "result": ["self", "x", "y"], "is_net": ["self", "thing"], "net": ["self", "row"], "folds": ["self", "row"],
        "folded": ["self", "row", "index"], "nets": ["self", "length"], "__eq__": None, "__len__": None},
    "programs.Program": {
        "__init__": ["self", "book", "places", "starts", "ends", "*steps"],
        "of": ["book", "places", "starts", "ends", "steps"], "read": ["text"], "goes": ["self", "place", "log"],
        "after": ["self", "place", "log", "number"], "follow": ["self", "*numbers", "place", "log"],
        "states": ["self", "many"], "again": ["self"], "__add__": None, "__or__": None, "__and__": None,
        "__eq__": None},
    "logsets.LogSet": {
        "of": ["book", "*rows"], "every": ["book"], "none": ["book"], "machine": ["book", "*rows"],
        "within": ["self", "b"], "least": ["self"], "longest": ["self"], "count": ["self", "length"],
        "logs": ["self"], "parting": ["self", "b"], "__and__": None, "__or__": None, "__sub__": None,
        "__invert__": None, "__eq__": None, "__bool__": None, "__contains__": None},
    "settled.Forwarder": {
        "__init__": ["self", "program", "place"], "go": ["self", "number"], "twin": ["self"], "__iadd__": None,
        "__len__": None, "__eq__": None},
    "meanings.Meaning": {
        "__init__": ["self", "book", "many", "*deeds"], "after": ["self", "condition", "row"], "misfit": ["self"]},
    "console.Console": {"__init__": ["self"], "say": ["self", "line"]},
}
DEFAULTS = {
    "roads.run_of": {"most": 1000}, "ends.endings": {"goal": None}, "ends.can_end": {"goal": None},
    "ends.fewest": {"goal": None}, "ends.ending_run": {"goal": None, "most": 1000},
}
PROPERTIES = {
    "books.Book": ["entries", "rules", "text"], "programs.Program": ["steps", "text"],
    "logsets.LogSet": ["table"], "settled.Forwarder": ["sent", "kept"], "meanings.Meaning": ["fits"],
}
# The book of a set of logs is an attribute, too: programs have one of this name, and L5 and L28 let no class have a
# property of a name that is assigned.
ATTRIBUTES = {
    "programs.Program": ["book", "places", "starts", "ends"], "logsets.LogSet": ["book"],
    "settled.Forwarder": ["place", "log"],
}


def found(name):
    """The module and the thing with this name."""
    file, word = name.split(".")
    module = importlib.import_module("logfolds." + file)
    return module, getattr(module, word)


def parameters(thing):
    """The names of the parameters of a function, those for any number of values with their star.

    Those that are passed by name only have a sign behind them, where none with a star stands before them.
    """
    each = list(inspect.signature(thing).parameters.values())
    kinds = inspect.Parameter
    has_star = any(one.kind == kinds.VAR_POSITIONAL for one in each)
    before = {kinds.VAR_POSITIONAL: "*", kinds.VAR_KEYWORD: "**"}
    behind = {} if has_star else {kinds.KEYWORD_ONLY: "="}
    return [before.get(one.kind, "") + one.name + behind.get(one.kind, "") for one in each]


def defaults(thing):
    """The default values of the parameters of a function."""
    each = inspect.signature(thing).parameters.values()
    return {one.name: one.default for one in each if one.default is not inspect.Parameter.empty}


class Names(unittest.TestCase):

    def test_functions(self):
        for name, wanted in FUNCTIONS.items():
            module, thing = found(name)
            self.assertEqual(thing.__module__, module.__name__)
            self.assertEqual(parameters(thing), wanted, name)

    def test_defaults(self):
        for name in FUNCTIONS:
            _, thing = found(name)
            self.assertEqual(defaults(thing), DEFAULTS.get(name, {}), name)

    def test_classes(self):
        for name, methods in CLASSES.items():
            module, kind = found(name)
            self.assertEqual(kind.__module__, module.__name__)
            for method, wanted in methods.items():
                self.assertTrue(method in vars(kind), (name, method))
                if wanted is not None:
                    self.assertEqual(parameters(getattr(kind, method)), wanted, (name, method))

    def test_properties(self):
        for name, words in PROPERTIES.items():
            for word in words:
                self.assertIsInstance(vars(found(name)[1])[word], property, (name, word))

    def test_attributes(self):
        made = {
            "programs.Program": UPDOWN, "logsets.LogSet": LogSet.every(PILE), "settled.Forwarder": Forwarder(UPDOWN)}
        for name, words in ATTRIBUTES.items():
            for word in words:
                self.assertIn(word, vars(made[name]))
                self.assertNotIn(word, vars(found(name)[1]))

    def test_defined_where_they_are_listed(self):
        for name in [*FUNCTIONS, *CLASSES]:
            file, word = name.split(".")
            body = ast.parse((PACKAGE / f"{file}.py").read_text()).body
            told = [node.name for node in body if isinstance(node, (ast.FunctionDef, ast.ClassDef))]
            self.assertTrue(word in told, name)


class Examples(unittest.TestCase):

    def test_logsets(self):
        every = LogSet.every(PILE)
        self.assertEqual(
            [every.table, ("a", "b") in every, every.count(3), (every - LogSet.of(PILE, ())).least()],
            [((True, (("a", 1), ("b", 0))), (True, (("a", 1),))), False, 4, ("a",)])

    def test_ways(self):
        self.assertEqual([way for way in ways_of(UPDOWN) if way[0] != "stays"], [
            ("above", "", 0, "a", 0), ("above", "", 0, "a", 1), ("above", "a", 0, "a", 0), ("above", "a", 0, "a", 1),
            ("above", "b", 0, "a", 0), ("above", "b", 0, "a", 1), ("turns", "a", 0, (), 1), ("turns", "a", 1, (), 1)])

    def test_standing(self):
        self.assertEqual(
            [left(UPDOWN).table, most(UPDOWN), growth_holds(UPDOWN, (1, (), ("a",)))],
            [((True, (("a", 0),)),), None, True])

    def test_roads(self):
        told = road(UPDOWN, 1, ("a", "a"))
        self.assertEqual([length_of(told), run_of(told)], [3, (1, 1, 0)])

    def test_ends(self):
        nothing = LogSet.of(PILE, ())
        self.assertEqual(
            [endings(UPDOWN, 1, nothing) == left(UPDOWN), fewest(UPDOWN, 0, ("a", "a"), nothing)], [True, 3])
        one, down = Program(PILE, 1, (0,), (0,)), Program(PILE, 1, (0,), (0,), (0, ("a",), "b", 0))
        self.assertEqual(
            [trap(UPDOWN), unclear_log(UPDOWN, one), unclear_log(UPDOWN, down)], [None, ("a",), None])

    def test_books_and_programs(self):
        self.assertEqual(
            [PILE.net(("a", "a", "b", "b", "b", "a")), PILE.folds(("a", "b", "a", "b")), PILE.result("b", "a")],
            [("b", "a"), (0, 2), None])
        self.assertEqual(clash_of(("a", "b"), ("a", "b", ()), ("b", "a", ("a",))), ("a", "b", "a"))
        self.assertEqual(UPDOWN.steps, ((0, (), "", 1), (0, (), "a", 0), (1, ("a",), "b", 1)))
        self.assertEqual(
            [UPDOWN.goes(0, ("a",)), UPDOWN.follow(1, 1, 0, 2), UPDOWN.after(1, ("a", "a"), 2)],
            [(0, 1), (1, ("a",)), (1, ("a",))])

    def test_settled(self):
        last = (("off", "off", ("off",)), ("off", "on", ("on",)), ("on", "off", ("off",)), ("on", "on", ("on",)))
        lamp = Book(("mark", "off", "on"), *last)
        switch = Program(lamp, 1, (0,), (0,), (0, (), "mark", 0), (0, (), "off", 0), (0, (), "on", 0))
        forwarder = Forwarder(switch)
        self.assertEqual(
            [forwarder.go(2), forwarder.go(0), forwarder.go(1), forwarder.sent, forwarder.kept, held(switch), held(UPDOWN)],
            [(), ("on", "mark"), (), ("on", "mark"), ("off",), 1, None])

    def test_meanings(self):
        self.assertEqual(
            [Meaning(PILE, 2, (1, 0), (1, 0)).fits, Meaning(PILE, 2, (1, None), (None, 0)).misfit(),
             rules_that_fit(2, t=(1, 0))],
            [True, ("a", "b", 1), (("t", "t", ()),)])

    def test_console(self):
        console = Console()
        self.assertEqual(
            [console.say("book entries a b / a b"),
             console.say("program p places 2 / starts 0 / ends 1 / 0 * - 1 / 0 * a 0 / 1 a b 1")],
            ["ok", "ok"])
        self.assertEqual(
            [console.say("stands p 1 a a"), console.say("run p 1 a a"), console.say("most p"), console.say("left p 3"),
             console.say("held p")],
            ["yes 3", "1 1 0", "endless", "- / a / a a", "endless"])


if __name__ == "__main__":
    unittest.main()
