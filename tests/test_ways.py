"""The ways of a program, and what has the form of one (points 10 and 11)."""

import random
import unittest

from logfolds.books import Book
from logfolds.programs import Program
from logfolds.ways import is_way, ways_of

from tests.helpers import BOOKS, CHAINED, FREE, LAMP, PILE, ROUND, UPDOWN, drawn_book, drawn_program, drawn_step
from tests.helpers import odd_values
from tests.plain_sets import SIX
from tests.plain_ways import all_forms, plain_closure, short_run_ways

TURNED = Book(("a", "b", "c"), ("a", "b", ("c",)), ("c", "c", ("c",)), ("b", "c", ("b",)), ("a", "c", ("a",)))


def drawn_programs(seed, many, places=4, steps=8):
    """Drawn programs with all kinds of books."""
    draw = random.Random(seed)
    for number in range(many):
        book = (BOOKS + (TURNED, ROUND, CHAINED))[number % 9] if number % 2 else drawn_book(draw)
        yield drawn_program(draw, book, places, steps)


def great_program(seed, book):
    """A program with twelve places and sixty steps."""
    draw = random.Random(seed)
    return Program(book, 12, (0, 5), (11,), *[drawn_step(draw, book, 12) for _ in range(60)])


class Known(unittest.TestCase):

    def test_updown(self):
        ways = ways_of(UPDOWN)
        self.assertEqual([way for way in ways if way[0] != "stays"], [
            ("above", "", 0, "a", 0), ("above", "", 0, "a", 1), ("above", "a", 0, "a", 0), ("above", "a", 0, "a", 1),
            ("above", "b", 0, "a", 0), ("above", "b", 0, "a", 1), ("turns", "a", 0, (), 1), ("turns", "a", 1, (), 1)])
        self.assertEqual(
            [way[1:] for way in ways if way[0] == "stays"],
            [(u, p, q) for u in ("", "a", "b") for p, q in ((0, 0), (0, 1), (1, 1))])

    def test_without_steps(self):
        for book in BOOKS:
            program = Program(book, 3, (0,), (2,))
            self.assertEqual(
                ways_of(program), tuple(("stays", u, p, p) for u in ("", *book.entries) for p in range(3)))

    def test_starts_and_ends_do_not_matter(self):
        for program in drawn_programs(931, 20):
            other = Program.of(program.book, program.places, (), (), program.steps)
            self.assertEqual(ways_of(other), ways_of(program))

    def test_a_fold_that_leaves_the_last_entry(self):
        # Of two settings the later one stays: on behind on leaves it unchanged, off behind on turns it.
        program = Program(LAMP, 1, (0,), (0,), (0, (), "on", 0))
        self.assertEqual(
            [way for way in ways_of(program) if way[0] != "above"],
            [("stays", "", 0, 0), ("stays", "mark", 0, 0), ("stays", "off", 0, 0), ("stays", "on", 0, 0),
             ("turns", "off", 0, ("on",), 0)])

    def test_what_is_above_folds_with_what_is_beneath(self):
        # b upon a is c; with c above a, nothing of it is left.
        program = Program(TURNED, 3, (0,), (2,), (0, (), "b", 1), (1, ("b",), "c", 2))
        ways = ways_of(program)
        self.assertTrue(("turns", "a", 0, ("c",), 1) in ways)
        self.assertTrue(("above", "", 0, "b", 2) in ways)
        self.assertTrue(("stays", "b", 1, 2) in ways)
        self.assertFalse(("turns", "a", 0, ("c",), 2) in ways)

    def test_looks(self):
        # The step goes only if the last entry is a, or if the log is ().
        program = Program(PILE, 2, (0,), (1,), (0, ("", "a"), "", 1))
        self.assertEqual(
            [way for way in ways_of(program) if way[2] != way[3]], [("stays", "", 0, 1), ("stays", "a", 0, 1)])


class BesideThePlainClosedSet(unittest.TestCase):

    def test_drawn_programs(self):
        for program in drawn_programs(932, 300):
            ways = ways_of(program)
            self.assertEqual(ways, plain_closure(program))
            self.assertIsInstance(ways, tuple)
            self.assertEqual([way for way in ways if not is_way(program, way)], [])

    def test_programs_put_together(self):
        draw = random.Random(933)
        for number in range(40):
            book = BOOKS[number % len(BOOKS)]
            one, other = drawn_program(draw, book, 3, 5), drawn_program(draw, book, 3, 5)
            for program in (one + other, one | other, one & other, one.again()):
                self.assertEqual(ways_of(program), plain_closure(program))

    def test_great_programs(self):
        for seed, book in ((1, SIX), (2, FREE)):
            program = great_program(seed, book)
            self.assertEqual(ways_of(program), plain_closure(program))
        inverse = Book(FREE.entries, *[(x, y, ()) for x, y in ("ab", "ba", "cd", "dc", "ef", "fe")])
        ways = ways_of(great_program(3, inverse))
        self.assertGreater(len(ways), 2000)
        self.assertEqual(list(ways), sorted(set(ways)))

    def test_told_again_the_same(self):
        for program in drawn_programs(934, 20):
            before = program.text
            self.assertEqual(ways_of(program), ways_of(program=program))
            self.assertEqual(program.text, before)
            again = Program.of(program.book, program.places, program.starts, program.ends, program.steps[::-1])
            self.assertEqual(ways_of(again), ways_of(program))


class BesideShortRuns(unittest.TestCase):

    def test_each_base(self):
        for program in drawn_programs(935, 150, 3, 6):
            ways = set(ways_of(program))
            for u in ("", *program.book.entries):
                for p in range(program.places):
                    wanted = {way for way in ways if way[1:3] == (u, p)}
                    self.assertEqual(short_run_ways(program, u, p, 5), wanted)

    def test_high_nests(self):
        # Six a's are put upon the ground, and then taken away again: only then the log is () at the last place.
        steps = [(k, (), "a", k + 1) for k in range(6)] + [(k, (), "b", k + 1) for k in range(6, 11)]
        program = Program(PILE, 12, (0,), (11,), *steps, (11, ("a",), "b", 0))
        self.assertTrue(("stays", "", 0, 0) in ways_of(program))
        self.assertFalse(("stays", "", 0, 11) in ways_of(program))
        self.assertTrue(("above", "", 0, "a", 11) in ways_of(program))
        self.assertEqual(ways_of(program), plain_closure(program))


class Forms(unittest.TestCase):

    def test_all_forms(self):
        for program in (UPDOWN, Program(LAMP, 2, (), ()), Program(TURNED, 1, (), ()), Program(Book(("a",)), 3, (), ())):
            for way in all_forms(program):
                self.assertIs(is_way(program, way), True)

    def test_one_part_spoilt(self):
        """Each form with each part replaced by what may stand elsewhere, or by an odd value."""
        parts = [
            "stays", "turns", "above", "stay", "", "a", "b", "c", "ab", 0, 1, 2, -1, True, False, None, (), ("a",),
            ("b",), ("c",), ("",), ("a", "b"), ("a", "a"), ["a"], [], {}, ("a", ()), (0,), (True,), *odd_values()]
        for program in (UPDOWN, Program(TURNED, 2, (), ())):
            forms = all_forms(program)
            told = {repr(way) for way in forms}
            for way in forms[::3]:
                for k in range(len(way)):
                    for part in parts:
                        thing = (*way[:k], part, *way[k + 1:])
                        self.assertIs(is_way(program, thing), repr(thing) in told, thing)

    def test_parts_more_or_less(self):
        forms = all_forms(UPDOWN)
        told = {repr(way) for way in forms}
        for way in forms:
            things = [list(way), {part: True for part in way}, repr(way), (way,), [way], (*way, 0), (*way, ()), way[1:]]
            things += [(*way[:k], *way[k + 1:]) for k in range(len(way))]
            things += [(*way[:k], way[k], *way[k:]) for k in range(len(way))]
            things += [(*way[:j], way[k], *way[j + 1:k], way[j], *way[k + 1:]) for k in range(5) for j in range(k)
                       if k < len(way)]
            for thing in things:
                self.assertIs(is_way(UPDOWN, thing), repr(thing) in told, thing)

    def test_known_forms(self):
        for thing in (
                ("stays", "", 0, 1), ("stays", "b", 1, 0), ("turns", "a", 0, (), 1), ("turns", "a", 0, ("b",), 0),
                ("above", "", 0, "b", 1), ("above", "b", 0, "a", 1), ("above", "a", 1, "a", 1)):
            self.assertIs(is_way(UPDOWN, thing), True, thing)
        for thing in (
                ("turns", "", 0, (), 1), ("turns", "", 0, ("a",), 1), ("turns", "a", 0, ("a",), 1),
                ("turns", "a", 0, ("a", "b"), 1), ("turns", "a", 0, "b", 1), ("turns", "a", 0, ["b"], 1),
                ("turns", "a", 0, 1), ("above", "a", 0, "b", 1), ("above", "a", 0, "", 1), ("above", "a", 0, ("a",), 1),
                ("above", "", 0, 1), ("stays", "a", 0, 2), ("stays", "a", -1, 0), ("stays", "a", True, 0),
                ("stays", "a", 0, False), ("stays", "a", 0, (), 0), ("stays", "c", 0, 0), ("stays", None, 0, 0),
                ("above", "b", 0, "a", True), ("turns", "a", False, (), 0), ("above", "", 2, "a", 0), "stays", None, ()):
            self.assertIs(is_way(UPDOWN, thing), False, thing)

    def test_odd_values(self):
        for thing in odd_values():
            self.assertIs(is_way(UPDOWN, thing), False)
            self.assertIs(is_way(program=UPDOWN, thing=thing), False)


if __name__ == "__main__":
    unittest.main()
