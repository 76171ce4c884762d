"""Books and clashes ([4], [5] and the books of the interface)."""

import itertools
import random
import unittest

from logfolds import books
from logfolds.books import Book, clash_of, is_name
from logfolds.errors import BadBook, NotClear
from tests.helpers import BOOKS, FREE, LAST, PILE, SHORT, UPDOWN
from tests.helpers import drawn_books, drawn_rules, nested, odd_values, plain_clash


def part_of(*arguments):
    """The part of the BadBook that `Book` raises for these arguments, in a list; otherwise the error or None."""
    try:
        Book(*arguments)
    except BadBook as error:
        return [error.part]
    except NotClear as error:
        return error
    return None


class Interface(unittest.TestCase):

    def test_defined_in_its_file(self):
        for thing in (books.Book, books.is_name, books.clash_of):
            self.assertEqual(thing.__module__, "logfolds.books")
        for name in ("entries", "rules", "text"):
            self.assertIsInstance(vars(Book)[name], property)
        for name in ("of", "read"):
            self.assertIsInstance(vars(Book)[name], classmethod)
        for name in ("__eq__", "__len__", "result", "is_net", "net", "folds", "folded", "nets"):
            self.assertIn(name, vars(Book))

    def test_examples(self):
        self.assertEqual(PILE.net(("a", "a", "b", "b", "b", "a")), ("b", "a"))
        self.assertEqual(PILE.folds(("a", "b", "a", "b")), (0, 2))
        self.assertIsNone(PILE.result("b", "a"))
        self.assertEqual(clash_of(("a", "b"), ("a", "b", ()), ("b", "a", ("a",))), ("a", "b", "a"))

    def test_by_name(self):
        self.assertEqual(Book(entries=("a", "b")), Book(("a", "b")))
        self.assertEqual(Book.of(entries=("a", "b"), rules=(("a", "b", ()),)), PILE)
        self.assertEqual(Book.read(text=PILE.text), PILE)
        self.assertTrue(is_name(thing="a"))
        self.assertIsNone(clash_of(entries=("a",)))
        self.assertEqual(PILE.result(x="a", y="b"), ())
        self.assertTrue(PILE.is_net(thing=("b", "a")))
        self.assertEqual(PILE.net(row=("a", "b")), ())
        self.assertEqual(PILE.folds(row=("a", "b")), (0,))
        self.assertEqual(PILE.folded(row=("a", "b"), index=0), ())
        self.assertEqual(list(PILE.nets(length=1)), [("a",), ("b",)])


class Names(unittest.TestCase):

    def test_names(self):
        for name in ("a", "z", "entries", "abcdefgh", "zzzzzzzz", "places"):
            self.assertIs(is_name(name), True)

    def test_no_names(self):
        for thing in ("", "abcdefghi", "A", "a1", "a b", "a\n", " a", "a-", "_", ".", "{", "`", "x" * 4000):
            self.assertIs(is_name(thing), False)
        for thing in odd_values():
            if not isinstance(thing, str):
                self.assertIs(is_name(thing), False)


class Construction(unittest.TestCase):

    def test_entries_and_rules(self):
        book = Book(("a", "b", "c"), ("b", "c", ()), ("a", "a", ("a",)))
        self.assertEqual(book.entries, ("a", "b", "c"))
        self.assertEqual(book.rules, (("a", "a", ("a",)), ("b", "c", ())))
        self.assertEqual(len(book), 2)
        self.assertEqual(len(FREE), 0)

    def test_bad_entries(self):
        bad = [
            (), ("b", "a"), ("a", "a"), ("a", "b", "b"), ["a"], "a", None, True, {"a": 1}, ("",), ("A",), ("a", 1),
            ("a", None), ("a", ["b"]), (("a",),), ("abcdefghi",), ("a", "a b"), 3, nested(30), tuple(range(5000)),
        ]
        for entries in bad:
            with self.subTest(str(entries)[:40]):
                self.assertEqual(part_of(entries), ["entries"])
                self.assertEqual(part_of(entries, ("a", "b", 3), "x"), ["entries"])

    def test_any_value_as_entries(self):
        for thing in odd_values():
            if thing not in (("a",), ("a", "b")):
                self.assertEqual(part_of(thing, thing), ["entries"])

    def test_any_value_as_a_rule(self):
        good = (("a", "b", ()), ("a", "b", ("a",)))
        for thing in odd_values():
            with self.subTest(str(thing)[:40]):
                if thing not in good:
                    self.assertIs(part_of(("a", "b"), thing)[0], thing)
                    self.assertIs(part_of(("a", "b"), ("b", "b", ()), thing, "a")[0], thing)

    def test_bad_rules(self):
        bad = [
            ("a", "b"), ("a", "b", (), ()), ("a", "c", ()), ("c", "a", ()), ("a", "b", ("c",)), ("a", "b", ("",)),
            ("", "a", ()), ("a", "", ()), ("a", "b", ("a", "a")), ("a", "b", []), ("a", "b", ["a"]), ("a", "b", ""),
            ("a", "b", "a"), ("a", "b", None), ("a", "b", 0), ("a", "b", False), (True, "b", ()), (["a"], "b", ()),
            ("a", {"b": 1}, ()), ("a", "b", (["a"],)), ("a", "b", ({},)), ["a", "b", ()], (("a", "b"), ()),
        ]
        for rule in bad:
            with self.subTest(str(rule)):
                self.assertIs(part_of(("a", "b"), rule)[0], rule)

    def test_the_first_bad_rule_is_told(self):
        self.assertEqual(part_of(("a", "b"), ("a", "b", ()), 7, 8), [7])
        self.assertEqual(part_of(("a", "b"), ("a", "b", ()), ("a", "b", ()), 8), [("a", "b", ())])
        self.assertEqual(part_of(("a", "b"), ("a", "b", ()), ("a", "b", ("a",))), [("a", "b", ("a",))])
        self.assertEqual(part_of(("a", "b"), ("a", "b", ()), ("b", "b", ()), ("a", "b", ("b",)), 1), [("a", "b", ("b",))])

    def test_a_bad_rule_goes_before_a_clash(self):
        clashing = [("a", "b", ()), ("b", "a", ("a",))]
        self.assertIsInstance(part_of(("a", "b"), *clashing), NotClear)
        self.assertEqual(part_of(("a", "b"), *clashing, None), [None])

    def test_clashes_are_refused_with_the_least_one(self):
        draw = random.Random(11)
        refused = 0
        for _ in range(400):
            entries = ("a", "b", "c")[:draw.randrange(1, 4)]
            rules = drawn_rules(draw, entries, draw.randrange(1, 10))
            clash = plain_clash(entries, rules)
            if clash is None:
                self.assertEqual(Book(entries, *rules).rules, tuple(sorted(rules)))
                continue
            refused += 1
            with self.assertRaises(NotClear) as caught:
                Book(entries, *rules)
            self.assertEqual(caught.exception.row, clash)
            with self.assertRaises(NotClear) as caught:
                Book.of(entries, tuple(rules))
            self.assertEqual(caught.exception.row, clash)
        self.assertGreater(refused, 50)

    def test_any_order_of_rules(self):
        for rules in itertools.permutations(LAST):
            book = Book(("mark", "off", "on"), *rules)
            self.assertEqual(book.rules, LAST)
            self.assertEqual(book, Book.of(("mark", "off", "on"), tuple(LAST)))

    def test_of(self):
        self.assertEqual(Book.of(("a", "b"), (("a", "b", ()),)), PILE)
        self.assertEqual(Book.of(("a",), ()), Book(("a",)))
        for rules in odd_values():
            with self.subTest(str(rules)[:40]), self.assertRaises(BadBook) as caught:
                Book.of(("b", "a"), rules)
            self.assertEqual(caught.exception.part, "entries")
            if rules == ():
                continue
            with self.subTest(str(rules)[:40]), self.assertRaises(BadBook) as caught:
                Book.of(("a", "b"), rules)
            self.assertEqual(caught.exception.part, rules[0] if isinstance(rules, tuple) else "rules")

    def test_arguments_are_unchanged(self):
        entries, rules = ["b", "a"], [["a", "b", []], {"a": [1]}]
        for call in (lambda: Book(entries, *rules), lambda: Book.of(entries, rules), lambda: Book.of(("a",), rules)):
            with self.assertRaises(BadBook):
                call()
        self.assertEqual((entries, rules), (["b", "a"], [["a", "b", []], {"a": [1]}]))

    def test_many_entries_and_rules(self):
        letters = "abcdefghijklmnopqrstuvwxyz"
        names = tuple(sorted(x + y for x in letters for y in letters))
        rules = [(x, y, (y,)) for x in names[:40] for y in names[:40]]
        book = Book(names, *reversed(rules))
        self.assertEqual(len(book), 1600)
        self.assertEqual(book.rules, tuple(rules))
        self.assertEqual(Book.read(book.text), book)


class Equality(unittest.TestCase):

    def test_equal(self):
        for book in drawn_books(12, 20):
            self.assertEqual(book, Book(book.entries, *reversed(book.rules)))
            self.assertFalse(book != Book(book.entries, *book.rules))

    def test_unequal(self):
        others = [Book(("a", "b")), Book(("a", "b"), ("a", "b", ("a",))), Book(("a", "b", "c"), ("a", "b", ()))]
        for other in others:
            self.assertFalse(PILE == other)
            self.assertTrue(PILE != other)

    def test_equal_to_no_other_value(self):
        for thing in [*odd_values(), UPDOWN, PILE.entries, PILE.rules, PILE.text]:
            for book in (PILE, SHORT):
                self.assertIs(book == thing, False)
                self.assertIs(thing == book, False)
                self.assertIs(book != thing, True)


class Clashes(unittest.TestCase):

    def test_beside_a_plain_search(self):
        draw = random.Random(13)
        clear = clashing = 0
        for _ in range(600):
            entries = ("a", "b", "c", "d")[:draw.randrange(1, 5)]
            rules = drawn_rules(draw, entries, draw.randrange(0, 8))
            clash = plain_clash(entries, rules)
            self.assertEqual(clash_of(entries, *rules), clash)
            clear, clashing = clear + (clash is None), clashing + (clash is not None)
        self.assertGreater(min(clear, clashing), 100)

    def test_all_rules_of_one_and_two_entries(self):
        for entries in (("a",), ("a", "b")):
            results = [None, (), *[(z,) for z in entries]]
            pairs = list(itertools.product(entries, repeat=2))
            for chosen in itertools.product(results, repeat=len(pairs)):
                rules = [(*pair, result) for pair, result in zip(pairs, chosen) if result is not None]
                self.assertEqual(clash_of(entries, *rules), plain_clash(entries, rules))

    def test_books_have_none(self):
        for book in BOOKS:
            self.assertIsNone(clash_of(book.entries, *book.rules))


if __name__ == "__main__":
    unittest.main()
