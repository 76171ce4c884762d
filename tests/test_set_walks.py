"""least, longest, count, logs and parting of sets of logs (point 9), beside plain lists."""

import itertools
import random
import unittest

from logfolds.books import Book
from logfolds.errors import NoLog
from logfolds.logsets import LogSet

from tests.helpers import FREE, ONCE, PILE, SHORT, drawn_book
from tests.plain_sets import ALL_BOOKS, SMALL_BOOKS, drawn_set, first_logs, in_order, logs_up_to, ring, short_nets

AB = Book(("a", "b"))


def drawn_cases(seed, many):
    """Books and drawn sets of their logs, with the length up to which all nets are looked through."""
    draw = random.Random(seed)
    for number in range(many):
        book = ALL_BOOKS[number % len(ALL_BOOKS)] if number % 2 else drawn_book(draw)
        yield book, drawn_set(draw, book), 3 if len(book.entries) > 4 else 5


class Finite(unittest.TestCase):

    def test_beside_plain_lists(self):
        draw = random.Random(921)
        for book in ALL_BOOKS:
            nets = short_nets(book, 3)
            for _ in range(30):
                logs = in_order(draw.choice(nets) for _ in range(draw.randrange(1, 12)))
                logset = LogSet.of(book, *logs)
                self.assertEqual(logset.least(), logs[0])
                self.assertEqual(logset.longest(), len(logs[-1]))
                self.assertEqual(list(logset.logs()), logs)
                for length in range(6):
                    self.assertEqual(logset.count(length), len([log for log in logs if len(log) == length]))
                self.assertEqual(logset.count(10 ** 18), 0)

    def test_without_logs(self):
        none = LogSet.none(PILE)
        with self.assertRaises(NoLog):
            none.least()
        with self.assertRaises(NoLog):
            none.longest()
        self.assertEqual([none.count(0), none.count(1), none.count(10 ** 18)], [0, 0, 0])
        self.assertEqual(list(none.logs()), [])
        self.assertEqual(none.table, ())

    def test_long_nets(self):
        draw = random.Random(922)
        logs = in_order(tuple(draw.choice(FREE.entries) for _ in range(length)) for length in (200, 200, 199, 7, 0))
        logset = LogSet.of(FREE, *logs)
        self.assertEqual(list(logset.logs()), logs)
        self.assertEqual([logset.least(), logset.longest()], [(), 200])
        self.assertEqual([logset.count(length) for length in (0, 7, 198, 199, 200, 201)], [1, 1, 0, 1, 2, 0])

    def test_all_nets_of_a_book_with_few(self):
        self.assertEqual(list(LogSet.every(SHORT).logs()), [(), ("a",)])
        self.assertEqual(LogSet.every(SHORT).longest(), 1)
        self.assertEqual([LogSet.every(SHORT).count(length) for length in range(4)], [1, 1, 0, 0])


class Drawn(unittest.TestCase):

    def test_logs_and_counts_and_the_least(self):
        for book, logset, longest in drawn_cases(923, 240):
            logs = logs_up_to(logset, longest)
            self.assertEqual(first_logs(logset, len(logs)), logs)
            for length in range(longest + 1):
                self.assertEqual(logset.count(length), len([log for log in logs if len(log) == length]))
            if logs:
                self.assertEqual(logset.least(), logs[0])
            elif logset:
                self.assertEqual(logset.least(), first_logs(logset, 1)[0])
                self.assertGreater(len(logset.least()), longest)

    def test_logs_are_in_order_and_in_the_set(self):
        for book, logset, _ in drawn_cases(924, 120):
            logs = first_logs(logset, 200)
            self.assertEqual(logs, in_order(logs))
            self.assertEqual([log for log in logs if log not in logset], [])
            counted = {}
            for log in logs[:-1]:
                counted[len(log)] = counted.get(len(log), 0) + 1
            for length in sorted(counted)[:-1]:
                self.assertEqual(counted[length], logset.count(length))

    def test_longest(self):
        for book, logset, _ in drawn_cases(925, 240):
            if not logset:
                continue
            # A log that is longer than there are states comes twice to one, and then there are longer ones.
            many = len(logset.table)
            lengths = [length for length in range(2 * many + 1) if logset.count(length)]
            if lengths[-1] < many:
                self.assertEqual(logset.longest(), lengths[-1])
                self.assertEqual(len(list(logset.logs())), sum(logset.count(length) for length in lengths))
            else:
                self.assertIsNone(logset.longest())

    def test_parting(self):
        draw = random.Random(926)
        for number in range(240):
            book = ALL_BOOKS[number % len(ALL_BOOKS)] if number % 2 else drawn_book(draw)
            one, other = drawn_set(draw, book), drawn_set(draw, book)
            longest = 3 if len(book.entries) > 4 else 5
            log = one.parting(other)
            self.assertEqual(log, other.parting(one))
            self.assertIs(log is None, one == other)
            apart = [net for net in short_nets(book, longest) if (net in one) != (net in other)]
            if apart:
                self.assertEqual(log, apart[0])
            elif log is not None:
                self.assertGreater(len(log), longest)
                self.assertEqual(log, ((one - other) | (other - one)).least())
            self.assertIsNone(one.parting(LogSet.machine(book, *one.table)))


class Endless(unittest.TestCase):

    def test_nets_of_a_book(self):
        every = LogSet.every(PILE)
        self.assertIsNone(every.longest())
        self.assertEqual(every.least(), ())
        self.assertEqual([every.count(length) for length in range(5)], [1, 2, 3, 4, 5])
        self.assertEqual(first_logs(every, 21), short_nets(PILE, 5))
        self.assertEqual(first_logs(LogSet.every(ONCE), 7),
                         [(), ("a",), ("b",), ("a", "b"), ("b", "a"), ("a", "b", "a"), ("b", "a", "b")])

    def test_the_first_logs_come_soon(self):
        # There are 6 ** 50 logs of the least length.
        long = LogSet.none(FREE)
        for entry in ("a", "f"):
            rows = [(False, tuple((other, k + 1) for other in FREE.entries)) for k in range(50)]
            rows.append((False, tuple(sorted([(entry, 50), ("c", 51)]))))
            rows.append((True, tuple((other, 51) for other in FREE.entries)))
            long = long | LogSet.machine(FREE, *rows)
        logs = first_logs(long, 60)
        self.assertEqual(logs, in_order(logs))
        self.assertEqual(logs[0], ("a",) * 50 + ("c",))
        self.assertEqual({len(log) for log in logs}, {51})
        self.assertEqual(long.count(51), 6 ** 50)

    def test_begun_anew_and_two_at_once(self):
        every = LogSet.every(PILE)
        wanted = short_nets(PILE, 3)
        one, other = every.logs(), every.logs()
        found = [(next(one), next(other)) for _ in range(5)]
        self.assertEqual([next(one) for _ in range(4)], wanted[5:9])
        self.assertEqual(found, [(log, log) for log in wanted[:5]])
        self.assertEqual(next(other), wanted[5])
        self.assertEqual(first_logs(every, 10), wanted)
        self.assertIs(iter(one), one)

    def test_many_logs(self):
        ups = ring(AB, "a", 1)
        self.assertEqual(first_logs(ups, 1000), [("a",) * k for k in range(1000)])
        self.assertEqual(len(first_logs(LogSet.every(FREE), 5000)), 5000)

    def test_rings(self):
        great = ring(AB, "a", 11, (3,)) & ring(AB, "a", 12, (5,))
        self.assertEqual(len(great.table), 132)
        self.assertEqual(great.least(), ("a",) * 113)
        self.assertIsNone(great.longest())
        self.assertEqual([len(log) for log in first_logs(great, 4)], [113, 245, 377, 509])
        self.assertEqual([great.count(113 + 132 * k) for k in (0, 1, 10 ** 6, 10 ** 30)], [1, 1, 1, 1])
        self.assertEqual([great.count(112 + 132 * k) for k in (0, 1, 10 ** 6, 10 ** 30)], [0, 0, 0, 0])
        self.assertEqual(great.parting(ring(AB, "a", 12, (5,))), ("a",) * 5)
        one, other = ring(AB, "a", 25) & ring(AB, "a", 27), ring(AB, "a", 25) & ring(AB, "a", 32)
        self.assertEqual(one.parting(other), ("a",) * 675)
        self.assertIsNone(one.parting(ring(AB, "a", 27) & ring(AB, "a", 25)))

    def test_counts_of_very_long_logs(self):
        self.assertEqual(LogSet.every(PILE).count(10 ** 30), 10 ** 30 + 1)
        self.assertEqual(LogSet.every(FREE).count(1000), 6 ** 1000)
        self.assertEqual(LogSet.every(ONCE).count(10 ** 18), 2)
        self.assertEqual((LogSet.every(AB) - ring(AB, "a", 2)).count(2000), 2 ** 2000 - 1)
        # An a, then b's, then another a at any place: as many as there are places.
        rows = [(False, (("a", 1),)), (False, (("a", 2), ("b", 1))), (True, (("b", 2),))]
        self.assertEqual(LogSet.machine(AB, *rows).count(10 ** 12), 10 ** 12 - 1)

    def test_counts_beside_plain_sums(self):
        draw = random.Random(927)
        for _ in range(40):
            book = draw.choice(SMALL_BOOKS)
            logset = drawn_set(draw, book)
            counts = [1 if row[0] else 0 for row in logset.table]
            for length in range(400):
                if length % 19 == 0:
                    self.assertEqual(logset.count(length), counts[0] if counts else 0)
                counts = [sum(counts[to] for _, to in row[1]) for row in logset.table]

    def test_what_is_asked_stays(self):
        for book, logset, _ in drawn_cases(928, 40):
            table = logset.table
            for _ in range(2):
                if logset:
                    found = logset.least(), logset.longest()
                    self.assertEqual((logset.least(), logset.longest()), found)
                self.assertEqual(logset.count(3), logset.count(3))
                self.assertEqual(list(itertools.islice(logset.logs(), 9)), first_logs(logset, 9))
                self.assertEqual(logset.table, table)


if __name__ == "__main__":
    unittest.main()
