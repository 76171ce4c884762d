"""Sets of logs and their tables (point 9): of, every, none, machine, table, book, and which sets are equal."""

import itertools
import random
import unittest

from logfolds.books import Book
from logfolds.logsets import LogSet

from tests.helpers import FREE, LAMP, ONCE, PILE, SHORT, drawn_book
from tests.plain_sets import ALL_BOOKS, SMALL_BOOKS, accepts, drawn_machine, drawn_set, flaws_of, in_order
from tests.plain_sets import logs_up_to, plain_table, ring, short_nets

AB = Book(("a", "b"))


class Finite(unittest.TestCase):

    def test_known_tables(self):
        self.assertEqual(LogSet.none(PILE).table, ())
        self.assertEqual(LogSet.of(PILE).table, ())
        self.assertEqual(LogSet.of(PILE, ()).table, ((True, ()),))
        self.assertEqual(LogSet.of(PILE, ("a",)).table, ((False, (("a", 1),)), (True, ())))
        self.assertEqual(LogSet.of(PILE, ("a",), ("b",)).table, ((False, (("a", 1), ("b", 1))), (True, ())))
        self.assertEqual(
            LogSet.of(PILE, ("b", "a"), ("a",), ()).table,
            ((True, (("a", 1), ("b", 2))), (True, ()), (False, (("a", 1),))))

    def test_states_are_numbered_as_they_are_met(self):
        # The states behind a, b, c differ; b leads on to that of a, and c to a new one.
        logs = (("a",), ("b", "a", "a"), ("c", "c", "c"), ("b", "b"))
        self.assertEqual(LogSet.of(FREE, *logs).table, (
            (False, (("a", 1), ("b", 2), ("c", 3))), (True, ()), (False, (("a", 4), ("b", 1))),
            (False, (("c", 5),)), (False, (("a", 1),)), (False, (("c", 1),))))

    def test_beside_the_words_of_the_document(self):
        draw = random.Random(901)
        for number in range(250):
            book = ALL_BOOKS[number % len(ALL_BOOKS)] if number < 150 else drawn_book(draw)
            nets = short_nets(book, 3)
            logs = [draw.choice(nets) for _ in range(draw.randrange(9))]
            logset = LogSet.of(book, *logs)
            self.assertEqual(logset.table, plain_table(book, set(logs)))
            self.assertEqual(logs_up_to(logset, 4), in_order(logs))

    def test_all_sets_of_the_shortest_nets(self):
        for book in (PILE, SHORT, ONCE):
            nets = short_nets(book, 2)
            for many in range(len(nets) + 1):
                for logs in itertools.combinations(nets, many):
                    self.assertEqual(LogSet.of(book, *logs).table, plain_table(book, set(logs)))

    def test_order_and_repetition_do_not_matter(self):
        logs = [("b",), ("a", "a"), (), ("b", "a")]
        for told in itertools.permutations(logs):
            self.assertEqual(LogSet.of(PILE, *told, *told), LogSet.of(PILE, *logs))
            self.assertEqual(LogSet.of(PILE, *told, *told).table, LogSet.of(PILE, *logs).table)

    def test_long_nets(self):
        logset = LogSet.of(PILE, ("a",) * 200)
        self.assertEqual(logset.table, (*[(False, (("a", k + 1),)) for k in range(200)], (True, ())))
        self.assertEqual(len(LogSet.of(PILE, ("a",) * 200, ("b",) * 200).table), 400)
        self.assertTrue(("a",) * 200 in logset)
        self.assertFalse(("a",) * 199 in logset)
        draw = random.Random(902)
        logs = [tuple(draw.choice(FREE.entries) for _ in range(200)) for _ in range(3)]
        logset = LogSet.of(FREE, *logs)
        self.assertEqual([log in logset for log in logs], [True] * 3)
        self.assertEqual(list(logset.logs()), sorted(logs))


class Machines(unittest.TestCase):

    def test_every(self):
        self.assertEqual(LogSet.every(PILE).table, ((True, (("a", 1), ("b", 0))), (True, (("a", 1),))))
        self.assertEqual(LogSet.every(AB).table, ((True, (("a", 0), ("b", 0))),))
        self.assertEqual(LogSet.every(SHORT).table, ((True, (("a", 1),)), (True, ())))
        self.assertEqual(
            LogSet.every(LAMP).table, ((True, (("mark", 0), ("off", 1), ("on", 1))), (True, (("mark", 0),))))
        for book in ALL_BOOKS:
            self.assertEqual(flaws_of(book, LogSet.every(book).table), [])
            self.assertEqual(logs_up_to(LogSet.every(book), 3), short_nets(book, 3))

    def test_without_rows(self):
        self.assertEqual(LogSet.machine(PILE).table, ())
        self.assertEqual(LogSet.machine(PILE), LogSet.none(PILE))

    def test_machines_that_accept_nothing(self):
        self.assertEqual(LogSet.machine(PILE, (False, ())).table, ())
        self.assertEqual(LogSet.machine(PILE, (False, (("a", 0), ("b", 0)))).table, ())
        self.assertEqual(LogSet.machine(PILE, (False, (("a", 1),)), (False, (("b", 0),)), (True, ())).table, ())
        # Only a row that is no net is accepted.
        self.assertEqual(LogSet.machine(PILE, (False, (("a", 1),)), (False, (("b", 2),)), (True, ())).table, ())

    def test_more_states_than_needed(self):
        rows = [(True, (("a", 1),)), (True, (("a", 2),)), (True, (("a", 0),))]
        self.assertEqual(LogSet.machine(AB, *rows).table, ((True, (("a", 0),)),))
        rows = [(False, (("a", 1), ("b", 2))), (True, ()), (True, ())]
        self.assertEqual(LogSet.machine(AB, *rows).table, ((False, (("a", 1), ("b", 1))), (True, ())))

    def test_states_that_nothing_leads_to_or_that_lead_to_nothing(self):
        rows = [(False, (("a", 2), ("b", 3))), (True, (("a", 1),)), (True, ()), (False, (("b", 3),))]
        self.assertEqual(LogSet.machine(AB, *rows).table, ((False, (("a", 1),)), (True, ())))

    def test_rows_that_are_no_nets(self):
        # a and then b is no net of this book: the state behind a and the one behind b become two.
        self.assertEqual(LogSet.machine(PILE, (True, (("a", 0), ("b", 0)))), LogSet.every(PILE))
        rows = [(True, (("a", 1),)), (False, (("b", 0),))]
        self.assertEqual(LogSet.machine(PILE, *rows).table, ((True, ()),))
        self.assertEqual(LogSet.machine(AB, *rows).table, ((True, (("a", 1),)), (False, (("b", 0),))))

    def test_beside_plain_nets(self):
        draw = random.Random(903)
        for number in range(300):
            book = ALL_BOOKS[number % len(ALL_BOOKS)] if number < 200 else drawn_book(draw)
            rows = drawn_machine(draw, book, draw.randrange(1, 8))
            logset = LogSet.machine(book, *rows)
            longest = 3 if len(book.entries) > 4 else 5
            self.assertEqual(logs_up_to(logset, longest), [x for x in short_nets(book, longest) if accepts(rows, x)])
            self.assertEqual(flaws_of(book, logset.table) if logset.table else [], [])

    def test_a_table_makes_the_same_set(self):
        draw = random.Random(904)
        for number in range(200):
            book = ALL_BOOKS[number % len(ALL_BOOKS)]
            logset = drawn_set(draw, book)
            again = LogSet.machine(book, *logset.table)
            self.assertEqual(again, logset)
            self.assertEqual(again.table, logset.table)

    def test_a_machine_written_otherwise(self):
        draw = random.Random(905)
        for number in range(200):
            book = ALL_BOOKS[number % len(ALL_BOOKS)]
            many = draw.randrange(1, 7)
            rows = drawn_machine(draw, book, many)
            # Each state comes twice, as itself and with a number that is greater by many, and all but 0 are mixed.
            numbers = [0] + draw.sample(range(1, 2 * many), 2 * many - 1)
            twice = [None] * (2 * many)
            for k in range(2 * many):
                is_in, moves = rows[k % many]
                moves = tuple((entry, numbers[to + draw.choice((0, many))]) for entry, to in moves)
                twice[numbers[k]] = (is_in, moves)
            self.assertEqual(LogSet.machine(book, *twice).table, LogSet.machine(book, *rows).table)

    def test_rings(self):
        for many in (1, 2, 60):
            table = tuple((k == 0, (("a", (k + 1) % many),)) for k in range(many))
            self.assertEqual(ring(AB, "a", many).table, table)
        # Of a ring whose good states come again after 6, only 6 states are needed.
        self.assertEqual(ring(AB, "a", 60, tuple(range(0, 60, 6))), ring(AB, "a", 6))
        both = ring(AB, "a", 25) & ring(AB, "a", 32)
        self.assertEqual(both.table, tuple((k == 0, (("a", (k + 1) % 800),)) for k in range(800)))

    def test_numbers_of_sixty_rows(self):
        draw = random.Random(906)
        for _ in range(5):
            rows = drawn_machine(draw, FREE, 60)
            logset = LogSet.machine(FREE, *rows)
            self.assertEqual(logs_up_to(logset, 4), [x for x in short_nets(FREE, 4) if accepts(rows, x)])
            self.assertEqual(flaws_of(FREE, logset.table), [])


class Equal(unittest.TestCase):

    def test_equal_sets(self):
        draw = random.Random(907)
        for book in SMALL_BOOKS:
            for _ in range(60):
                one, other = drawn_set(draw, book), drawn_set(draw, book)
                self.assertIs(one == other, one.table == other.table)
                self.assertIs(one != other, one.table != other.table)
                self.assertIs(one == LogSet.machine(book, *one.table), True)
                self.assertIs(one != LogSet.machine(book, *one.table), False)

    def test_other_books(self):
        self.assertIs(LogSet.none(PILE) == LogSet.none(AB), False)
        self.assertIs(LogSet.none(PILE) != LogSet.none(AB), True)
        self.assertIs(LogSet.of(PILE, ("a",)) == LogSet.of(AB, ("a",)), False)
        self.assertIs(LogSet.of(PILE, ("a",)) == LogSet.of(Book(("a", "b"), ("a", "b", ())), ("a",)), True)

    def test_values_that_are_no_sets(self):
        every = LogSet.every(PILE)
        for thing in (None, True, 1, "", (), every.table, [], {}, PILE, [("a",)]):
            self.assertIs(every == thing, False)
            self.assertIs(every != thing, True)
        self.assertIs(LogSet.none(PILE) == (), False)

    def test_book_and_table(self):
        for book in ALL_BOOKS:
            for logset in (LogSet.every(book), LogSet.none(book), LogSet.of(book, ()), LogSet.machine(book)):
                self.assertIs(logset.book, book)
                self.assertIsInstance(logset.table, tuple)
                self.assertEqual(logset.table, logset.table)

    def test_by_name(self):
        self.assertEqual(LogSet.every(book=PILE), LogSet.every(PILE))
        self.assertEqual(LogSet.none(book=PILE), LogSet.none(PILE))
        self.assertEqual(LogSet.of(book=PILE), LogSet.none(PILE))
        self.assertEqual(LogSet.machine(book=PILE), LogSet.none(PILE))

    def test_what_is_passed_stays(self):
        row = [(True, (("a", 0),))]
        LogSet.machine(AB, *row)
        self.assertEqual(row, [(True, (("a", 0),))])


if __name__ == "__main__":
    unittest.main()
