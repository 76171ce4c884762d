"""Folds and nets ([3], last clause; [4], [5] and the books of the interface)."""

import itertools
import random
import time
import unittest

from logfolds.books import Book
from logfolds.errors import NoFold
from tests.helpers import BOOKS, FREE, LAMP, ONCE, PILE, SHORT, TURNS
from tests.helpers import drawn_books, drawn_row, odd_values, plain_folds, plain_net, plain_nets, results_of


def rows_up_to(book, longest):
    """All rows with at most so many entries."""
    return [row for k in range(longest + 1) for row in itertools.product(book.entries, repeat=k)]


class Folds(unittest.TestCase):

    def test_result(self):
        self.assertEqual(PILE.result("a", "b"), ())
        self.assertEqual(LAMP.result("on", "off"), ("off",))
        for book in drawn_books(21, 20):
            results = results_of(book.rules)
            for x, y in itertools.product(book.entries, repeat=2):
                self.assertEqual(book.result(x, y), results.get((x, y)))

    def test_folds_and_folded(self):
        draw = random.Random(22)
        for book in drawn_books(22, 40):
            results = results_of(book.rules)
            for row in [drawn_row(draw, book, 8) for _ in range(20)]:
                wanted = tuple(k for k in range(len(row) - 1) if row[k:k + 2] in results)
                self.assertEqual(book.folds(row), wanted)
                self.assertEqual([book.folded(row, k) for k in wanted], plain_folds(results, row))

    def test_nothing_to_fold(self):
        for book in BOOKS:
            self.assertEqual(book.folds(()), ())
            self.assertEqual(book.folds((book.entries[0],)), ())

    def test_no_fold_for_all_that_is_no_index(self):
        row = ("a", "b", "b", "a", "b")
        self.assertEqual(PILE.folds(row), (0, 3))
        bad = [1, 2, 4, 5, 6, -1, -2, -5, True, False, None, "0", "", (0,), [0], {}, {0: 0}, 10 ** 39, -(10 ** 39)]
        for index in [*bad, *[thing for thing in odd_values() if thing != 0]]:
            with self.subTest(str(index)[:40]), self.assertRaises(NoFold) as caught:
                PILE.folded(row, index)
            self.assertIs(caught.exception.index, index)
        for index in (0, True, None):
            with self.assertRaises(NoFold):
                PILE.folded((), index)
        self.assertEqual(row, ("a", "b", "b", "a", "b"))

    def test_true_is_no_index(self):
        self.assertEqual(PILE.folded(("b", "a", "b"), 1), ("b",))
        with self.assertRaises(NoFold) as caught:
            PILE.folded(("b", "a", "b"), True)
        self.assertIs(caught.exception.index, True)
        with self.assertRaises(NoFold):
            PILE.folded(("a", "b"), False)


class Nets(unittest.TestCase):

    def test_is_net(self):
        for book in drawn_books(23, 20):
            results = results_of(book.rules)
            for row in rows_up_to(book, 3):
                self.assertIs(book.is_net(row), plain_folds(results, row) == [])

    def test_is_net_of_any_value(self):
        nets = [(), ("a",), ("b", "a")]
        for thing in odd_values():
            with self.subTest(str(thing)[:40]):
                self.assertIs(PILE.is_net(thing), any(thing == net for net in nets) or thing == ("a", "a"))
        for thing in (["a"], ("c",), ("a", "c"), ("a", None), ("a", ["b"]), ("a", {}), "a", ("a", "b"), ("",), (("a",),)):
            self.assertIs(PILE.is_net(thing), False)
        self.assertIs(PILE.is_net(PILE), False)

    def test_net_beside_all_orders_of_folds(self):
        for book in drawn_books(24, 40):
            results = results_of(book.rules)
            for row in rows_up_to(book, 4)[:300]:
                self.assertEqual(plain_nets(results, row), {book.net(row)})

    def test_net_beside_drawn_orders_of_folds(self):
        draw = random.Random(25)
        for book in drawn_books(25, 40):
            for length in (5, 20, 200):
                row = tuple(draw.choice(book.entries) for _ in range(length))
                net = book.net(row)
                self.assertTrue(book.is_net(net))
                while book.folds(row):
                    row = book.folded(row, draw.choice(book.folds(row)))
                self.assertEqual(row, net)

    def test_net_in_pieces(self):
        draw = random.Random(26)
        for book in drawn_books(26, 40):
            for longest in (6, 30, 200):
                row = drawn_row(draw, book, longest)
                cuts = sorted(draw.randrange(len(row) + 1) for _ in range(4))
                pieces = [row[a:b] for a, b in zip([0, *cuts], [*cuts, len(row)])]
                folded = [entry for piece in pieces for entry in book.net(piece)]
                self.assertEqual(book.net(tuple(folded)), book.net(row))
                self.assertEqual(book.net(row), plain_net(book, row))

    def test_a_net_is_its_own_net(self):
        for book in drawn_books(27, 20):
            for length in range(4):
                for net in itertools.islice(book.nets(length), 50):
                    self.assertEqual(book.net(net), net)

    def test_results_that_fold_again(self):
        self.assertEqual(TURNS.net(("a", "c", "d", "b", "c")), ("c",))
        self.assertEqual(LAMP.net(("mark", "on", "off", "on", "off")), ("mark", "off"))
        self.assertEqual(PILE.net(("a",) * 100 + ("b",) * 100), ())
        self.assertEqual(PILE.net(("a",) * 100 + ("b",) * 99), ("a",))
        threes = Book(("a", "b"), ("a", "a", ("b",)), ("a", "b", ()), ("b", "a", ()), ("b", "b", ("a",)))
        self.assertEqual([threes.net(("a",) * k) for k in range(5)], [(), ("a",), ("b",), (), ("a",)])
        # The result c folds with what is beneath it.
        deep = Book(("a", "b", "c", "d"), ("a", "c", ()), ("b", "d", ("c",)))
        self.assertEqual(deep.net(("a", "a", "b", "d", "b", "d")), ())
        self.assertEqual(deep.net(("a", "b", "b", "d", "d", "c")), ("a", "b", "c", "d", "c"))


class NetsOfALength(unittest.TestCase):

    def test_each_length(self):
        for book in drawn_books(28, 40):
            results = results_of(book.rules)
            for length in range(5):
                rows = itertools.product(book.entries, repeat=length)
                wanted = [row for row in rows if not plain_folds(results, row)]
                self.assertEqual(list(book.nets(length))[:len(wanted) + 1], wanted)

    def test_length_nothing(self):
        for book in BOOKS:
            self.assertEqual(list(book.nets(0)), [()])

    def test_lengths_without_nets(self):
        self.assertEqual(list(SHORT.nets(1)), [("a",)])
        for length in (2, 3, 60, 200):
            self.assertEqual(list(SHORT.nets(length)), [])
        ordered = Book(("a", "b", "c"), ("a", "a", ("a",)), ("b", "a", ("a",)), ("b", "b", ("b",)),
                       ("c", "a", ("a",)), ("c", "b", ("b",)), ("c", "c", ("c",)))
        self.assertEqual(list(ordered.nets(3)), [("a", "b", "c")])
        self.assertEqual(list(ordered.nets(4)), [])

    def test_few_of_a_great_length(self):
        self.assertEqual(list(ONCE.nets(200)), [("a", "b") * 100, ("b", "a") * 100])
        self.assertEqual(list(PILE.nets(60)), sorted(("b",) * k + ("a",) * (60 - k) for k in range(61)))

    def test_begun_anew_and_two_at_once(self):
        once, twice = iter(TURNS.nets(4)), iter(TURNS.nets(4))
        wanted = list(TURNS.nets(4))
        for net in wanted:
            self.assertEqual(next(once), net)
            self.assertEqual(next(twice), net)
        self.assertEqual(list(once), [])
        self.assertEqual(list(TURNS.nets(4)), wanted)
        self.assertEqual(wanted, sorted(set(wanted)))

    def test_the_first_ones_come_soon(self):
        begun = time.perf_counter()
        first = list(itertools.islice(FREE.nets(60), 5000))
        self.assertEqual(first[0], ("a",) * 60)
        self.assertEqual(first[7], ("a",) * 58 + ("b", "b"))
        self.assertEqual(first, sorted(set(first)))
        six = Book(FREE.entries, *[("a", x, ("a",)) for x in FREE.entries])
        self.assertEqual(next(iter(six.nets(60))), ("b",) * 59 + ("a",))
        for book in (six, TURNS, LAMP):
            nets = list(itertools.islice(book.nets(60), 5000))
            self.assertEqual(nets, sorted(set(nets)))
            self.assertTrue(all(len(net) == 60 and book.is_net(net) for net in nets))
        self.assertLess(time.perf_counter() - begun, 20)


if __name__ == "__main__":
    unittest.main()
