"""The signs of sets of logs, within, and in (point 9), beside plain lists of short nets."""

import itertools
import random
import unittest

from logfolds.books import Book
from logfolds.errors import OtherBook
from logfolds.logsets import LogSet

from tests.helpers import FREE, LAMP, PILE, SHORT, drawn_book
from tests.plain_sets import ALL_BOOKS, SIX, drawn_set, drawn_sets, flaws_of, logs_up_to, ring, short_nets

AB = Book(("a", "b"))


def drawn_cases(seed, many, sets):
    """Books, each with several drawn sets of logs."""
    draw = random.Random(seed)
    for number in range(many):
        book = ALL_BOOKS[number % len(ALL_BOOKS)] if number % 2 else drawn_book(draw)
        yield (book, *drawn_sets(draw, book, sets))


def finite_sets(book, longest):
    """All sets of the nets up to this length, with their logs."""
    nets = short_nets(book, longest)
    for many in range(len(nets) + 1):
        for logs in itertools.combinations(nets, many):
            yield set(logs), LogSet.of(book, *logs)


class BesidePlainLists(unittest.TestCase):

    def test_all_small_finite_sets(self):
        for book in (PILE, SHORT):
            every = set(short_nets(book, 3))
            told = list(finite_sets(book, 1))
            for (left, one), (right, other) in itertools.product(told, repeat=2):
                self.assertEqual(one & other, LogSet.of(book, *(left & right)))
                self.assertEqual(one | other, LogSet.of(book, *(left | right)))
                self.assertEqual(one - other, LogSet.of(book, *(left - right)))
                self.assertIs(one.within(other), left <= right)
                self.assertIs(one == other, left == right)
            for logs, one in told:
                self.assertEqual(set(logs_up_to(~one, 3)), every - logs)

    def test_drawn_sets(self):
        for book, one, other in drawn_cases(911, 200, 2):
            longest = 3 if len(book.entries) > 4 else 5
            nets = short_nets(book, longest)
            left, right = set(logs_up_to(one, longest)), set(logs_up_to(other, longest))
            wanted = [
                (one & other, left & right), (one | other, left | right), (one - other, left - right),
                (other - one, right - left), (~one, set(nets) - left),
            ]
            for logset, logs in wanted:
                self.assertEqual(logs_up_to(logset, longest), [net for net in nets if net in logs])
                self.assertEqual(flaws_of(book, logset.table) if logset.table else [], [])
                self.assertEqual(logset.book, book)
            # Sets with so few states differ, if they do, in a short log.
            if len(one.table) * len(other.table) <= longest:
                self.assertIs(one.within(other), left <= right)
            if one.within(other):
                self.assertLessEqual(left, right)

    def test_known_sets(self):
        every, none = LogSet.every(PILE), LogSet.none(PILE)
        self.assertEqual(~every, none)
        self.assertEqual(~none, every)
        self.assertEqual((every - LogSet.of(PILE, ())).least(), ("a",))
        downs, ups = ring(PILE, "b", 1), ring(PILE, "a", 1)
        self.assertEqual((downs & ups).table, ((True, ()),))
        self.assertEqual((downs | ups).table, ((True, (("a", 1), ("b", 2))), (True, (("a", 1),)), (True, (("b", 2),))))
        self.assertEqual((ups - downs).table, ((False, (("a", 1),)), (True, (("a", 1),))))
        # Behind an a there are only more of them, so what is no row of a's begins with a b.
        self.assertEqual(
            (~ups).table, ((False, (("b", 1),)), (True, (("a", 2), ("b", 1))), (True, (("a", 2),))))

    def test_rings(self):
        one, other = ring(AB, "a", 12), ring(AB, "a", 18)
        self.assertEqual(one & other, ring(AB, "a", 36))
        self.assertEqual(one | other, ring(AB, "a", 36, (0, 12, 18, 24)))
        self.assertEqual(one - other, ring(AB, "a", 36, (12, 24)))
        self.assertEqual(ring(AB, "a", 1) & ~one, ring(AB, "a", 12, tuple(range(1, 12))))
        self.assertEqual([one.within(other), ring(AB, "a", 36).within(one)], [False, True])
        great = ring(AB, "a", 25) & ring(AB, "a", 32)
        self.assertEqual(len(great.table), 800)
        self.assertEqual(great & ring(AB, "a", 8), great)
        self.assertEqual(great | ring(AB, "a", 8), ring(AB, "a", 8))
        self.assertEqual(~~great, great)
        self.assertEqual([great.within(ring(AB, "a", 50)), great.within(ring(AB, "a", 40)),
                          great.within(ring(AB, "a", 60))], [True, True, False])
        self.assertFalse(ring(AB, "a", 50, (1,)) & ring(AB, "a", 60))

    def test_sets_that_never_meet(self):
        # The evens of one great ring and the odds of another one: many pairs of states, and no log in both.
        evens = ring(AB, "a", 25) & ring(AB, "a", 32)
        odds = ring(AB, "a", 1) - ring(AB, "a", 2) - ring(AB, "a", 27)
        self.assertEqual((evens & odds).table, ())
        self.assertEqual(evens - odds, evens)
        self.assertTrue(evens.within(~odds))


class Laws(unittest.TestCase):

    def test_one_set(self):
        for book, one in drawn_cases(912, 120, 1):
            every, none = LogSet.every(book), LogSet.none(book)
            for left, right in (
                    (one & one, one), (one | one, one), (one - one, none), (one & none, none), (one | none, one),
                    (one - none, one), (none - one, none), (one & every, one), (one | every, every),
                    (one - every, none), (every - one, ~one), (~~one, one), (one & ~one, none), (one | ~one, every)):
                self.assertEqual(left, right)
                self.assertEqual(left.table, right.table)
            self.assertTrue(none.within(one) and one.within(every) and one.within(one))
            self.assertIs(one.within(none), not one)
            self.assertIs(every.within(one), one == every)

    def test_two_sets(self):
        for book, one, other in drawn_cases(913, 120, 2):
            self.assertEqual(one & other, other & one)
            self.assertEqual(one | other, other | one)
            self.assertEqual(one - other, one & ~other)
            self.assertEqual(~(one & other), ~one | ~other)
            self.assertEqual(~(one | other), ~one & ~other)
            self.assertEqual(one | (one & other), one)
            self.assertEqual(one & (one | other), one)
            self.assertEqual((one - other) | (one & other), one)
            self.assertEqual(len({(one - other).table, one.table}) == 1, not one & other)
            self.assertIs(one.within(other), not one - other)
            self.assertIs(one.within(other), one | other == other)
            self.assertIs(one == other, one.within(other) and other.within(one))

    def test_three_sets(self):
        for book, one, other, third in drawn_cases(914, 80, 3):
            self.assertEqual((one & other) & third, one & (other & third))
            self.assertEqual((one | other) | third, one | (other | third))
            self.assertEqual(one & (other | third), (one & other) | (one & third))
            self.assertEqual(one | (other & third), (one | other) & (one | third))
            self.assertEqual(one - other - third, one - (other | third))
            if one.within(other) and other.within(third):
                self.assertTrue(one.within(third))

    def test_told_again_the_same_and_operands_unchanged(self):
        for book, one, other in drawn_cases(915, 40, 2):
            before = one.table, other.table
            for _ in range(2):
                for made in (one & other, one | other, one - other, ~one):
                    self.assertIsInstance(made, LogSet)
                    self.assertIsNot(made, one)
                one.within(other)
                one.parting(other)
                self.assertEqual((one.table, other.table), before)
                self.assertEqual((one.book, other.book), (book, book))
            same = one
            one &= other
            self.assertEqual(same.table, before[0])
            self.assertEqual(one, same & other)


class Bool(unittest.TestCase):

    def test_bool(self):
        for book, one in drawn_cases(916, 100, 1):
            self.assertIs(bool(one), one.table != ())
            self.assertIs(bool(one), one != LogSet.none(book))
        self.assertIs(bool(LogSet.none(PILE)), False)
        self.assertIs(bool(LogSet.of(PILE, ())), True)
        self.assertIs(bool(LogSet.every(PILE)), True)


class OtherBooks(unittest.TestCase):

    def test_each_sign(self):
        # The last book has the same entries and other rules.
        for mine, others in ((PILE, (AB, LAMP, SIX, Book(("a", "b"), ("b", "a", ())))), (FREE, (SIX, PILE))):
            for theirs in others:
                for one in (LogSet.none(mine), LogSet.every(mine), LogSet.of(mine, ())):
                    for other in (LogSet.none(theirs), LogSet.every(theirs), LogSet.of(theirs, ())):
                        for act in (
                                lambda: one & other, lambda: one | other, lambda: one - other,
                                lambda: one.within(other), lambda: one.parting(other)):
                            with self.assertRaises(OtherBook):
                                act()

    def test_equal_books_are_one(self):
        again = Book(("a", "b"), ("a", "b", ()))
        one, other = LogSet.of(PILE, (), ("a",)), LogSet.of(again, ("a",))
        self.assertEqual(one & other, other)
        self.assertEqual(one | other, one)
        self.assertEqual(one - other, LogSet.of(PILE, ()))
        self.assertIs(other.within(one), True)
        self.assertEqual(one.parting(other), ())

    def test_by_name(self):
        one, other = LogSet.of(PILE, ("a",)), LogSet.of(PILE, ("a",), ("b",))
        self.assertIs(one.within(b=other), True)
        self.assertEqual(one.parting(b=other), ("b",))
        with self.assertRaises(OtherBook):
            one.within(b=LogSet.none(AB))


class Membership(unittest.TestCase):

    def test_beside_the_table(self):
        draw = random.Random(917)
        for number in range(60):
            book = ALL_BOOKS[number % len(ALL_BOOKS)]
            one = drawn_set(draw, book)
            for log in short_nets(book, 3):
                self.assertIs(log in one, log in logs_up_to(one & LogSet.of(book, log), 3))
                self.assertIs(log in one, LogSet.of(book, log).within(one))

    def test_rows_that_are_no_nets(self):
        for row in (("a", "b"), ("a", "a", "b"), ("b", "a", "b", "a")):
            self.assertIs(row in LogSet.every(PILE), False)

    def test_long_logs(self):
        every = LogSet.every(PILE)
        self.assertIs(("b",) * 100 + ("a",) * 100 in every, True)
        self.assertIs(("b",) * 100 + ("a",) * 100 + ("b",) in every, False)


if __name__ == "__main__":
    unittest.main()
