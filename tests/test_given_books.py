"""The book that was given: an attribute of a program and of a set of logs, for each way to make them."""

import copy
import random
import unittest

from logfolds.books import Book
from logfolds.ends import endings
from logfolds.logsets import LogSet
from logfolds.programs import Program
from logfolds.standing import left, standing

from tests.helpers import BOOKS, drawn_program, drawn_row, plain_net
from tests.plain_sets import drawn_machine


class GivenBooks(unittest.TestCase):

    def drawn(self, seed):
        """Some programs of each book."""
        draw = random.Random(seed)
        for number in range(30):
            yield draw, drawn_program(draw, BOOKS[number % len(BOOKS)])

    def check_book(self, made, book):
        """Checks that a program or a set of logs has this very book, as an attribute of its own."""
        self.assertIs(made.book, book)
        self.assertIs(vars(made)["book"], book)
        self.assertNotIn("book", vars(made.__class__))

    def test_programs(self):
        for draw, program in self.drawn(1001):
            book = program.book
            other = drawn_program(draw, book)
            parts = (book, 2, (0,), (1,))
            for made in (
                    Program(*parts), Program(*parts, (0, (), "", 1)), Program.of(*parts, ((0, (), "", 1),)),
                    program + other, program | other, program & other, program.again(),
                    (program + other).again(), program.again() | other):
                self.check_book(made, book)

    def test_programs_that_are_read(self):
        for _, program in self.drawn(1003):
            read = Program.read(program.text)
            self.assertEqual(read.book, program.book)
            self.assertIsInstance(read.book, Book)
            self.check_book(read.again(), read.book)

    def test_sets_of_logs(self):
        for draw, program in self.drawn(1002):
            book = program.book
            some = LogSet.of(book, (), plain_net(book, drawn_row(draw, book, 3)))
            other = LogSet.machine(book, *drawn_machine(draw, book, 3))
            sets = [some, other, LogSet.of(book), LogSet.machine(book), LogSet.every(book), LogSet.none(book)]
            for one in sets:
                for made in (one, one & some, one | other, one - some, ~one):
                    self.check_book(made, book)

    def test_sets_of_the_logs_of_programs(self):
        for draw, program in self.drawn(1004):
            book = program.book
            goal = LogSet.machine(book, *drawn_machine(draw, book, 3))
            for place in range(program.places):
                # Each is asked for twice: what has been worked out once is kept with the program.
                for _ in range(2):
                    self.check_book(standing(program, place), book)
                    self.check_book(left(program), book)
                    self.check_book(endings(program, place), book)
                    self.check_book(endings(program, place, goal), book)

    def test_the_operands_keep_their_own_books(self):
        for draw, program in self.drawn(1005):
            book = program.book
            again = Book.of(book.entries, book.rules)
            self.assertIsNot(again, book)
            other = drawn_program(draw, again)
            self.check_operands((program, other), [
                lambda: program + other, lambda: program | other, lambda: program & other, program.again,
                lambda: other + program, lambda: other | program, lambda: other & program, other.again])
            one = LogSet.machine(book, *drawn_machine(draw, book, 3))
            more = LogSet.machine(again, *drawn_machine(draw, again, 3))
            self.check_operands((one, more), [
                lambda: one & more, lambda: one | more, lambda: one - more, lambda: ~one,
                lambda: more & one, lambda: more | one, lambda: more - one, lambda: ~more])

    def check_operands(self, operands, acts):
        """Checks that what is made has a book that was given, and that nothing of the operands is changed by it."""
        before = [dict(vars(each)) for each in operands]
        copies = copy.deepcopy(before)
        for act in acts:
            made = act()
            self.assertTrue(any(made.book is each.book for each in operands))
            self.assertFalse(any(made is each for each in operands))
            for each, held in zip(operands, before):
                self.assertEqual(list(vars(each)), list(held))
                for name, value in vars(each).items():
                    self.assertIs(value, held[name], name)
            self.assertEqual([vars(each) for each in operands], copies)

    def test_an_equal_book_is_not_the_same_one(self):
        one, other = Book(("a",)), Book(("a",))
        self.assertIs(LogSet.every(one).book, one)
        self.assertIs(LogSet.every(other).book, other)
        self.assertIs(Program(other, 1, (), ()).book, other)


if __name__ == "__main__":
    unittest.main()
