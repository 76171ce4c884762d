"""Any values for sets of logs: NotNet, BadTable, and what is in a set (point 9)."""

import copy
import unittest

from logfolds.books import Book
from logfolds.errors import BadTable, FoldError, NotNet
from logfolds.logsets import LogSet
from logfolds.programs import Program

from tests.helpers import FREE, PILE, UPDOWN, nested, odd_values
from tests.plain_sets import plain_is_net

AB = Book(("a", "b"))

# Values that are no nets of PILE, though some of them look so.
NO_NETS = [
    None, True, False, 0, 1, "", "a", "ab", [], ["a"], {}, {"a": 1}, ("a", "b"), ("b", "a", "b"), ("a", "a", "b"),
    ("c",), ("",), ("a", ""), ("A",), ("a", None), ("a", 1), (True,), (["a"],), ({"a": 1},), (("a",),), ("a", ()),
    ("a", "a", ["b"]), nested(30), ("a",) * 4000 + ("b",), ["a"] * 4000, "(" * 200, PILE, UPDOWN, LogSet.every(PILE),
]

# Good rows for machines with two states, and for each of them the same with one thing put otherwise.
GOOD_ROWS = [
    (True, ()), (False, ()), (True, (("a", 0),)), (False, (("b", 1),)), (True, (("a", 1), ("b", 0))),
    (False, (("a", 0), ("b", 0))),
]
BAD_ROWS = [
    # Other kinds of values.
    None, True, 0, "", "row", [], {}, (), [True, ()], {True: ()},
    # Parts left out, doubled or exchanged.
    (True,), ((),), (True, (), ()), (True, True), ((), ()), ((), True), (True, (), (("a", 0),)),
    (True, ("a", 0)), (True, (("a",),)), (True, ((0,),)), (True, (("a", 0, 0),)), (True, ((0, "a"),)), (True, ((),)),
    (True, (("a", 0), ())), ((("a", 0),), True),
    # A bool for a number, a number for a bool, and other kinds for both.
    (1, ()), (0, ()), (None, ()), ("", ()), ("True", ()), ([], ()), (True, (("a", True),)), (True, (("a", False),)),
    (True, (("a", "0"),)), (True, (("a", None),)), (True, (("a", (0,)),)), (True, (("a", [0]),)),
    # Numbers of no row.
    (True, (("a", 2),)), (True, (("a", -1),)), (True, (("a", 10 ** 39),)), (True, (("a", 0), ("b", 2))),
    # Entries that are none.
    (True, (("", 0),)), (True, (("c", 0),)), (True, (("ab", 0),)), (True, ((None, 0),)), (True, ((0, 0),)),
    (True, ((("a",), 0),)), (True, ((["a"], 0),)), (True, (({"a": 0}, 0),)), (True, (("A", 0),)),
    # Moves that do not ascend, and an entry twice.
    (True, (("b", 0), ("a", 0))), (True, (("a", 0), ("a", 0))), (True, (("a", 0), ("a", 1))),
    (True, (("a", 1), ("a", 0))), (True, (("a", 0), ("b", 0), ("b", 1))), (True, (("a", 0), ("b", 0), ("a", 1))),
    # Lists and dicts for tuples.
    (True, []), (True, [("a", 0)]), (True, (["a", 0],)), (True, {"a": 0}), (True, "a"), (True, (("a", 0), ["b", 0])),
    (True, None), (True, 0), (True, ("a",)), (True, nested(30)), nested(30), ("a",) * 4000, (True, (("a", 0),) * 2000),
]


class NoNets(unittest.TestCase):

    def test_the_first_one_is_told(self):
        for thing in NO_NETS:
            for rows in (
                    (thing,), ((), thing), (("a",), ("b", "a"), thing), (thing, thing), (thing, ("a",)),
                    ((), thing, ("a", "b"), None)):
                with self.assertRaises(NotNet) as caught:
                    LogSet.of(PILE, *rows)
                self.assertIs(caught.exception.row, thing)

    def test_odd_values(self):
        for thing in odd_values():
            is_row = isinstance(thing, tuple) and all(part == "a" or part == "b" for part in thing)
            for book in (PILE, AB):
                if is_row and plain_is_net(book, thing):
                    self.assertIs(thing in LogSet.of(book, thing), True)
                    continue
                with self.assertRaises(NotNet) as caught:
                    LogSet.of(book, thing)
                self.assertIs(caught.exception.row, thing)

    def test_a_net_of_another_book(self):
        self.assertTrue(("a", "b") in LogSet.of(AB, ("a", "b")))
        with self.assertRaises(NotNet):
            LogSet.of(PILE, ("a", "b"))
        with self.assertRaises(FoldError):
            LogSet.of(PILE, ("c",))


class NoTables(unittest.TestCase):

    def test_good_rows(self):
        for one in GOOD_ROWS:
            for other in GOOD_ROWS:
                self.assertIsInstance(LogSet.machine(AB, one, other), LogSet)
                self.assertIsInstance(LogSet.machine(PILE, one, other), LogSet)

    def test_the_first_one_is_told(self):
        good = GOOD_ROWS[4]
        for thing in BAD_ROWS:
            for rows in ((thing, good), (good, thing), (thing, thing), (thing, None)):
                with self.assertRaises(BadTable) as caught:
                    LogSet.machine(AB, *rows)
                self.assertIs(caught.exception.row, thing)

    def test_odd_values(self):
        for thing in odd_values():
            for rows in ((thing,), ((True, ()), thing)):
                with self.assertRaises(BadTable) as caught:
                    LogSet.machine(PILE, *rows)
                self.assertIs(caught.exception.row, thing)

    def test_numbers_are_counted_by_all_rows(self):
        last = (True, (("a", 2),))
        with self.assertRaises(BadTable) as caught:
            LogSet.machine(AB, last, (True, ()))
        self.assertEqual(caught.exception.row, last)
        self.assertEqual(LogSet.machine(AB, last, (True, ()), (True, ())).longest(), 1)
        with self.assertRaises(BadTable):
            LogSet.machine(AB, (True, (("a", 1),)))

    def test_rows_that_nothing_leads_to_are_checked_too(self):
        with self.assertRaises(BadTable) as caught:
            LogSet.machine(AB, (True, ()), (True, (("c", 0),)))
        self.assertEqual(caught.exception.row, (True, (("c", 0),)))

    def test_a_table_of_another_book(self):
        table = LogSet.every(FREE).table
        with self.assertRaises(BadTable) as caught:
            LogSet.machine(PILE, *table)
        self.assertEqual(caught.exception.row, table[0])

    def test_a_table_for_its_rows(self):
        table = LogSet.every(PILE).table
        with self.assertRaises(BadTable) as caught:
            LogSet.machine(PILE, table)
        self.assertEqual(caught.exception.row, table)

    def test_what_is_passed_stays(self):
        for thing in [thing for thing in BAD_ROWS if not isinstance(thing, (LogSet, Book, Program))]:
            before = copy.deepcopy(thing)
            with self.assertRaises(BadTable):
                LogSet.machine(AB, thing)
            self.assertEqual(thing, before)


class AnyValueIn(unittest.TestCase):

    def test_values_that_are_no_logs(self):
        every, none = LogSet.every(PILE), LogSet.none(PILE)
        for thing in [*NO_NETS, *[row for row in BAD_ROWS if row not in ((), ("a",) * 4000)]]:
            self.assertIs(thing in every, False)
            self.assertIs(thing in none, False)
            self.assertIs(thing in LogSet.of(PILE, ("a",)), False)
            self.assertIs(thing not in every, True)

    def test_odd_values(self):
        every, none = LogSet.every(PILE), LogSet.none(PILE)
        for thing in odd_values():
            self.assertIs(thing in every, PILE.is_net(thing))
            self.assertIs(thing in none, False)

    def test_it_is_not_iterated_over(self):
        for logset in (LogSet.every(PILE), LogSet.none(PILE)):
            with self.assertRaises(TypeError):
                iter(logset)


if __name__ == "__main__":
    unittest.main()
