"""Programs put together ([8])."""

import random
import unittest

from logfolds.books import Book
from logfolds.errors import OtherBook
from logfolds.programs import Program
from tests.helpers import PILE, UPDOWN, drawn_books, drawn_program, plain_states

WAIT = Program(PILE, 1, (0,), (0,), (0, (), "b", 0))


def drawn_pairs(seed):
    """Pairs of programs with equal books that are two objects, some of them the same program."""
    draw = random.Random(seed)
    for book in drawn_books(seed, 30):
        program = drawn_program(draw, book, 5, 10)
        again = Book.of(book.entries, book.rules)
        yield program, drawn_program(draw, again, 4, 10)
        yield program, program


class Sum(unittest.TestCase):

    def test_example(self):
        both = UPDOWN + WAIT
        self.assertEqual((both.places, both.starts, both.ends), (3, (0,), (2,)))
        self.assertEqual(
            both.steps, ((0, (), "", 1), (0, (), "a", 0), (1, (), "", 2), (1, ("a",), "b", 1), (2, (), "b", 2)))

    def test_place_by_place_and_step_by_step(self):
        for one, other in drawn_pairs(51):
            p, both = one.places, one + other
            steps = set(one.steps)
            steps |= {(place + p, looks, entry, to + p) for place, looks, entry, to in other.steps}
            steps |= {(e, (), "", s + p) for e in one.ends for s in other.starts}
            self.assertEqual(both.book, one.book)
            self.assertEqual(both.places, p + other.places)
            self.assertEqual(both.starts, one.starts)
            self.assertEqual(both.ends, tuple(e + p for e in other.ends))
            self.assertEqual(both.steps, tuple(sorted(steps)))


class Either(unittest.TestCase):

    def test_example(self):
        both = UPDOWN | WAIT
        self.assertEqual((both.places, both.starts, both.ends), (3, (0, 2), (1, 2)))
        self.assertEqual(both.steps, (*UPDOWN.steps, (2, (), "b", 2)))

    def test_place_by_place_and_step_by_step(self):
        for one, other in drawn_pairs(52):
            p, both = one.places, one | other
            steps = set(one.steps)
            steps |= {(place + p, looks, entry, to + p) for place, looks, entry, to in other.steps}
            self.assertEqual(both.book, one.book)
            self.assertEqual(both.places, p + other.places)
            self.assertEqual(both.starts, one.starts + tuple(s + p for s in other.starts))
            self.assertEqual(both.ends, one.ends + tuple(e + p for e in other.ends))
            self.assertEqual(both.steps, tuple(sorted(steps)))

    def test_what_stands(self):
        for one, other in drawn_pairs(55):
            p = one.places
            states = set(plain_states(one, 3)) | {(place + p, log) for place, log in plain_states(other, 3)}
            self.assertEqual(set((one | other).states(3)), states)


class Both(unittest.TestCase):

    def test_example(self):
        both = UPDOWN & Program(PILE, 2, (0,), (1,), (0, (), "b", 1))
        self.assertEqual((both.places, both.starts, both.ends), (4, (0,), (3,)))
        self.assertEqual(both.steps, (
            (0, (), "", 2), (0, (), "a", 0), (0, (), "b", 1), (1, (), "", 3), (1, (), "a", 1), (2, (), "b", 3),
            (2, ("a",), "b", 2), (3, ("a",), "b", 3)))

    def test_place_by_place_and_step_by_step(self):
        for one, other in drawn_pairs(53):
            p, q, both = one.places, other.places, one & other
            steps = {(a * q + b, looks, entry, to * q + b) for a, looks, entry, to in one.steps for b in range(q)}
            steps |= {(a * q + b, looks, entry, a * q + to) for b, looks, entry, to in other.steps for a in range(p)}
            self.assertEqual(both.book, one.book)
            self.assertEqual(both.places, p * q)
            self.assertEqual(both.starts, tuple(sorted(a * q + b for a in one.starts for b in other.starts)))
            self.assertEqual(both.ends, tuple(sorted(a * q + b for a in one.ends for b in other.ends)))
            self.assertEqual(both.steps, tuple(sorted(steps)))

    def test_many_places(self):
        one = Program(PILE, 25, (0,), (24,), *[(k, (), "a", k + 1) for k in range(24)])
        other = Program(PILE, 40, (0,), (39,), *[(k, (), "b", k + 1) for k in range(39)])
        both = one & other
        self.assertEqual((both.places, len(both.steps), both.ends), (1000, 24 * 40 + 39 * 25, (999,)))
        self.assertEqual(Program.read(both.text), both)


class Again(unittest.TestCase):

    def test_example(self):
        self.assertEqual(UPDOWN.again().steps, ((0, (), "", 1), (0, (), "a", 0), (1, (), "", 0), (1, ("a",), "b", 1)))

    def test_step_by_step(self):
        for one, _ in drawn_pairs(54):
            more = one.again()
            links = {(e, (), "", s) for e in one.ends for s in one.starts}
            self.assertEqual((more.book, more.places, more.starts, more.ends), (one.book, one.places, one.starts, one.ends))
            self.assertEqual(more.steps, tuple(sorted({*one.steps, *links})))
            self.assertEqual(more.again(), more)


class Operands(unittest.TestCase):

    def test_other_book(self):
        for book in (Book(("a", "b")), Book(("a", "b"), ("a", "b", ("a",))), Book(("a", "b", "c"), ("a", "b", ()))):
            other = Program(book, 1, (0,), (0,))
            for call in (lambda: UPDOWN + other, lambda: UPDOWN | other, lambda: UPDOWN & other,
                         lambda: other + UPDOWN, lambda: other | UPDOWN, lambda: other & UPDOWN):
                with self.assertRaises(OtherBook):
                    call()

    def test_unchanged(self):
        for one, other in drawn_pairs(56):
            before = (one.text, other.text)
            results = [one + other, one | other, one & other, one.again()]
            self.assertEqual((one.text, other.text), before)
            self.assertEqual(results, [one + other, one | other, one & other, one.again()])
            for result in results:
                self.assertIsNot(result, one)
                self.assertEqual(Program.read(result.text), result)

    def test_in_place_signs_make_new_programs(self):
        one = UPDOWN
        one += WAIT
        self.assertEqual(one, UPDOWN + WAIT)
        self.assertEqual(UPDOWN.places, 2)


if __name__ == "__main__":
    unittest.main()
