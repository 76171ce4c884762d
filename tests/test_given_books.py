"""The book that was given: an attribute of a program, a property of a set of logs, for each way to make them."""

import random
import unittest

from logfolds.books import Book
from logfolds.ends import endings
from logfolds.logsets import LogSet
from logfolds.programs import Program
from logfolds.standing import left, standing

from tests.helpers import BOOKS, drawn_program, drawn_row, plain_net
from tests.plain_sets import drawn_machine


class GivenBooks(unittest.TestCase):

    def drawn(self, seed):
        """Some programs of each book."""
        draw = random.Random(seed)
        for number in range(30):
            yield draw, drawn_program(draw, BOOKS[number % len(BOOKS)])

    def test_programs(self):
        for draw, program in self.drawn(1001):
            book = program.book
            other = drawn_program(draw, book)
            self.assertIs(drawn_program(draw, book).book, book)
            self.assertIn("book", vars(program))
            for made in (Program.of(book, 1, (), (), ()), program + other, program | other, program.again()):
                self.assertIs(made.book, book)
            self.assertIs((Program(book, 1, (0,), ()) & program).book, book)
            read = Program.read(program.text)
            self.assertEqual(read.book, book)
            self.assertIsInstance(read.book, Book)

    def test_sets_of_logs(self):
        for draw, program in self.drawn(1002):
            book = program.book
            some = LogSet.of(book, (), plain_net(book, drawn_row(draw, book, 3)))
            other = LogSet.machine(book, *drawn_machine(draw, book, 3))
            made = [
                some, other, LogSet.every(book), LogSet.none(book), some & other, some | other, some - other, ~some,
                standing(program, 0), left(program), endings(program, 0), endings(program, 0, some)]
            for logset in made:
                self.assertIs(logset.book, book)
                self.assertIsInstance(vars(LogSet)["book"], property)

    def test_an_equal_book_is_not_the_same_one(self):
        one, other = Book(("a",)), Book(("a",))
        self.assertIs(LogSet.every(one).book, one)
        self.assertIs(LogSet.every(other).book, other)
        self.assertIs(Program(other, 1, (), ()).book, other)


if __name__ == "__main__":
    unittest.main()
