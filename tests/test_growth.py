"""How long logs grow (points 3 and 14): most, growth_of, growth_holds."""

import random
import unittest

from logfolds.books import Book
from logfolds.errors import NoLog
from logfolds.logsets import LogSet
from logfolds.programs import Program
from logfolds.standing import growth_holds, growth_of, most, standing, stands
from logfolds.ways import ways_of

from tests.helpers import BOOKS, FREE, LAMP, ONCE, PILE, SHORT, UPDOWN, drawn_program, odd_values
from tests.plain_sets import SIX, plain_is_net, short_nets
from tests.plain_ways import chain_stands
from tests.test_ways import drawn_programs, great_program

AB = Book(("a", "b"))


def plain_grows(program, place, log, row, times):
    """Whether a log stands as a net with a row behind it up to so many times."""
    ways = set(ways_of(program))
    for many in range(times + 1):
        longer = log + row * many
        if not plain_is_net(program.book, longer) or not chain_stands(program, ways, place, longer):
            return False
    return row != ()


def greatest(program):
    """The greatest length of a log that stands, by the sets of logs, or None."""
    sets = [standing(program, place) for place in range(program.places)]
    lengths = [logset.longest() for logset in sets if logset]
    return None if None in lengths else max(lengths)


def ladder(many):
    """A program that writes at most so many entries a, and goes up and down between."""
    up = [(k, (), "a", k + 1) for k in range(many)]
    down = [(k + 1, (), "b", k) for k in range(many)]
    return Program(PILE, many + 1, (0,), (many,), *up, *down)


def rings_that_meet():
    """A program with rings of 2, 3 and 5 places, and a last place for logs that are not at the end of all three."""
    steps = []
    begin = 0
    for many in (2, 3, 5):
        for k in range(many):
            steps.append((begin + k, (), "a", begin + (k + 1) % many))
            if k < many - 1:
                steps.append((begin + k, (), "", 10))
        begin += many
    return Program(AB, 11, (0, 2, 5), (10,), *steps)


class Most(unittest.TestCase):

    def test_known(self):
        self.assertIsNone(most(UPDOWN))
        self.assertIsNone(most(program=UPDOWN))
        self.assertEqual([most(ladder(many)) for many in range(12)], list(range(12)))
        self.assertEqual(most(Program(PILE, 1, (0,), (0,))), 0)
        self.assertEqual(most(Program(SHORT, 1, (0,), (0,), (0, (), "a", 0))), 1)
        self.assertEqual(most(Program(LAMP, 1, (0,), (0,), (0, (), "on", 0), (0, (), "off", 0))), 1)
        self.assertIsNone(most(Program(LAMP, 1, (0,), (0,), (0, (), "on", 0), (0, (), "mark", 0))))
        self.assertEqual(most(Program(PILE, 1, (0,), (), (0, ("",), "a", 0), (0, ("a",), "b", 0))), 1)

    def test_on_the_way_and_not_at_the_end(self):
        # The log grows to five entries before four of them are taken away again.
        steps = [(k, (), "a", k + 1) for k in range(5)] + [(k, (), "b", k + 1) for k in range(5, 9)]
        program = Program(PILE, 10, (0,), (9,), *steps)
        self.assertEqual(most(program), 5)
        self.assertEqual(standing(program, 9), LogSet.of(PILE, ("a",)))

    def test_without_starts(self):
        for program in drawn_programs(971, 30):
            other = Program.of(program.book, program.places, (), program.ends, program.steps)
            with self.assertRaises(NoLog):
                most(other)
            self.assertIsNone(growth_of(other))
            for log in short_nets(program.book, 1):
                self.assertIs(growth_holds(other, (0, log, (program.book.entries[0],))), False)

    def test_growth_that_nothing_leads_to(self):
        # Place 1 would grow, but no run comes there; place 2 grows only upon an a, and there is none.
        program = Program(PILE, 3, (0,), (1,), (1, (), "a", 1), (0, (), "", 2), (2, ("a",), "a", 2))
        self.assertEqual(most(program), 0)
        self.assertIsNone(growth_of(program))

    def test_beside_sets(self):
        for program in drawn_programs(972, 250):
            if program.starts:
                self.assertEqual(most(program), greatest(program))

    def test_put_together(self):
        draw = random.Random(973)
        for number in range(60):
            book = (PILE, LAMP, ONCE, SHORT)[number % 4]
            one, other = drawn_program(draw, book, 3, 4), drawn_program(draw, book, 3, 4)
            for program in (one + other, one | other, one & other, one.again()):
                if program.starts:
                    self.assertEqual(most(program), greatest(program))
                    self.assertIs(growth_of(program) is None, most(program) is not None)
        self.assertEqual(most(ladder(3) + ladder(3)), 6)
        self.assertEqual(most(ladder(3) | ladder(2)), 3)
        self.assertEqual(most(ladder(2) & ladder(3)), 5)
        self.assertIsNone(most(ladder(2).again()))

    def test_great_programs(self):
        steps = [(k, (), FREE.entries[k % 6], k + 1) for k in range(11)]
        self.assertEqual(most(Program(FREE, 12, (0,), (), *steps)), 11)
        self.assertIsNone(most(Program(FREE, 12, (0,), (), *steps, (11, (), "", 0))))
        for seed, book in ((974, SIX), (975, FREE)):
            program = great_program(seed, book)
            self.assertEqual(most(program), greatest(program))


class GrowthOf(unittest.TestCase):

    def check_growth(self, program):
        """Checks the growth of a program: whether there is one, and that it stands as often as it comes."""
        growth = growth_of(program)
        if growth is None:
            self.assertTrue(program.starts == () or most(program) is not None)
            return
        self.assertIsNone(most(program))
        place, log, row = growth
        self.assertIsInstance(growth, tuple)
        self.assertTrue(place in range(program.places) and isinstance(log, tuple) and isinstance(row, tuple) and row)
        self.assertIs(growth_holds(program, growth), True)
        for many in range(7):
            self.assertTrue(plain_is_net(program.book, log + row * many))
            self.assertIs(stands(program, place, log + row * many), True)
            self.assertTrue(log + row * many in standing(program, place))

    def test_drawn_programs(self):
        for program in drawn_programs(976, 250):
            self.check_growth(program)

    def test_known(self):
        for program in (
                UPDOWN, rings_that_meet(), Program(LAMP, 1, (0,), (0,), (0, (), "on", 0), (0, (), "mark", 0)),
                Program(ONCE, 2, (0,), (0,), (0, (), "a", 1), (1, (), "b", 0)), ladder(2).again(), great_program(1, SIX)):
            self.assertIsNotNone(growth_of(program))
            self.check_growth(program)
        for program in (ladder(11), Program(SHORT, 1, (0,), (0,), (0, (), "a", 0)), Program(PILE, 2, (), (1,))):
            self.assertIsNone(growth_of(program))
            self.assertIsNone(growth_of(program=program))

    def test_long_rings(self):
        # Only after twelve entries the same place comes again.
        steps = [(k, (), FREE.entries[k % 5], (k + 1) % 12) for k in range(12)]
        program = Program(FREE, 12, (0,), (0,), *steps)
        self.check_growth(program)
        self.assertEqual(len(growth_of(program)[2]), 12)

    def test_told_again_the_same(self):
        for program in drawn_programs(977, 20):
            before = program.text
            self.assertEqual(growth_of(program), growth_of(program))
            self.assertEqual(program.text, before)


class GrowthHolds(unittest.TestCase):

    def test_updown(self):
        for thing in ((1, (), ("a",)), (0, (), ("a",)), (1, ("a",) * 5, ("a", "a")), (1, ("a",) * 200, ("a",) * 200)):
            self.assertIs(growth_holds(UPDOWN, thing), True)
            self.assertIs(growth_holds(program=UPDOWN, thing=thing), True)
        for thing in (
                (1, (), ()), (1, ("a",), ()), (2, (), ("a",)), (-1, (), ("a",)), (True, (), ("a",)), ("1", (), ("a",)),
                (1, ("b",), ("a",)), (1, (), ("b",)), (1, (), ("a", "b")), (1, (), ("b", "a")), (1, ("a", "b"), ("a",)),
                (1, ["a"], ("a",)), (1, (), ["a"]), (1, (), "a"), (1, "", ("a",)), (1, None, ("a",)), (1, (), None),
                (1, (), ("c",)), (1, ("c",), ("a",)), (1, ()), (1, ("a",)), (1, (), ("a",), ("a",)), ((), ("a",)),
                [1, (), ("a",)], {1: ()}, (1, ("a",), (("a",),)), (("a",), 1, ()), ((), 1, ("a",)), ((1, (), ("a",)),)):
            self.assertIs(growth_holds(UPDOWN, thing), False, thing)

    def test_nets(self):
        # b's can stand beneath a's; what is put behind must be a net at each seam.
        free = Program(PILE, 1, (0,), (0,), (0, (), "a", 0), (0, (), "b", 0))
        for thing in ((0, (), ("b",)), (0, ("b", "b"), ("a",)), (0, ("b", "a"), ("a",)), (0, ("b",), ("b", "b"))):
            self.assertIs(growth_holds(free, thing), True)
        for thing in (
                (0, ("a",), ("b",)), (0, (), ("a", "b")), (0, (), ("b", "a")), (0, ("b",), ("b", "a")),
                (0, ("b", "a"), ("b",)), (0, ("a", "b"), ("a",))):
            self.assertIs(growth_holds(free, thing), False)

    def test_the_row_is_put_upon_the_last_entry(self):
        # A b beneath, and upon it an a; on from there only upon an a.
        program = Program(PILE, 3, (0,), (2,), (0, (), "b", 1), (1, (), "a", 2), (2, ("a",), "a", 2))
        self.assertIs(growth_holds(program, (2, ("b", "a"), ("a",))), True)
        self.assertIs(growth_holds(program, (2, ("b",), ("a",))), False)
        other = Program(PILE, 3, (0,), (2,), (0, (), "b", 1), (1, (), "a", 2), (2, ("b",), "a", 2))
        self.assertIs(growth_holds(other, (2, ("b", "a"), ("a",))), False)

    def test_rows_that_stand_only_a_few_times(self):
        for many in range(12):
            program = ladder(many)
            for place in range(many + 1):
                self.assertIs(growth_holds(program, (place, ("a",) * place, ("a",))), False)
        program = rings_that_meet()
        self.assertEqual([k for k in range(100) if not stands(program, 10, ("a",) * k)], [29, 59, 89])
        for many in range(29):
            self.assertIs(growth_holds(program, (10, ("a",) * many, ("a",))), False)
        for row in (2, 3, 5, 6, 10, 15, 30, 31):
            wanted = [k for k in range(29) if all((k + row * times) % 30 != 29 for times in range(30))]
            held = [k for k in range(29) if growth_holds(program, (10, ("a",) * k, ("a",) * row))]
            self.assertEqual(held, wanted)
        self.assertIs(growth_holds(program, (10, ("a",) * 29, ("a",) * 30)), False)
        self.assertIs(growth_holds(program, (0, (), ("a",) * 2)), True)
        self.assertIs(growth_holds(program, (0, (), ("a",))), False)

    def test_it_stands_first_only_later(self):
        # The log alone does not stand at place 1; with one row and more behind it, it does.
        program = Program(AB, 2, (0,), (1,), (0, (), "a", 1), (1, (), "a", 1))
        self.assertIs(growth_holds(program, (1, (), ("a",))), False)
        self.assertIs(growth_holds(program, (1, ("a",), ("a",))), True)
        self.assertIs(growth_holds(program, (0, (), ("a",))), False)

    def test_drawn_programs(self):
        held = 0
        for program in drawn_programs(978, 60, 3, 7):
            nets = short_nets(program.book, 1 if len(program.book.entries) > 4 else 2)
            for place in range(program.places):
                for log in nets:
                    for row in nets:
                        wanted = plain_grows(program, place, log, row, 14)
                        self.assertIs(growth_holds(program, (place, log, row)), wanted)
                        held += wanted
        self.assertGreater(held, 50)

    def test_growths_with_one_thing_put_otherwise(self):
        for program in drawn_programs(979, 120):
            growth = growth_of(program)
            if growth is None:
                continue
            place, log, row = growth
            for other in range(program.places):
                self.assertIs(
                    growth_holds(program, (other, log, row)), plain_grows(program, other, log, row, 30))
            for entry in program.book.entries:
                for thing in ((place, (*log, entry), row), (place, log, (*row, entry)), (place, log, (entry, *row))):
                    self.assertIs(growth_holds(program, thing), plain_grows(program, *thing, 30))
            for many in range(1, 5):
                self.assertIs(growth_holds(program, (place, log + row * many, row)), True)
                self.assertIs(growth_holds(program, (place, log, row * many)), True)
            for thing in (
                    (place, log, ()), (place + 1000, log, row), (program.places, log, row), (place, list(log), row),
                    (place, log, list(row)), (place, log), (log, row), list(growth), (*growth, row), (bool(place), log, row)):
                self.assertIs(growth_holds(program, thing), False)

    def test_any_value(self):
        for thing in odd_values():
            self.assertIs(growth_holds(UPDOWN, thing), False)
            self.assertIs(growth_holds(UPDOWN, (thing, (), ("a",))), repr(thing) in ("0", "1"))
            self.assertIs(growth_holds(UPDOWN, (1, thing, ("a",))), is_ups(thing))
            self.assertIs(growth_holds(UPDOWN, (1, (), thing)), is_ups(thing) and thing != ())
            self.assertIs(growth_holds(UPDOWN, (1, (), (thing,))), thing == "a")
            self.assertIs(growth_holds(UPDOWN, (1, (thing,), ("a",))), thing == "a")

    def test_great_machines_of_kinds(self):
        # What stands at the last place has an a there as the last entry but eight.
        steps = [(0, (), "a", 0), (0, (), "b", 0), (0, (), "a", 1)]
        steps = [*steps, *[(k, (), entry, k + 1) for k in range(1, 9) for entry in "ab"]]
        program = Program(AB, 10, (0,), (9,), *steps)
        row = tuple("aab" * 60)
        self.assertIs(growth_holds(program, (9, row[:-2], row)), True)
        self.assertIs(growth_holds(program, (9, row, row)), True)
        self.assertIs(growth_holds(program, (9, row[:-1], row)), False)

    def test_what_is_passed_stays(self):
        for book in BOOKS:
            program = Program(book, 1, (0,), (0,), (0, (), book.entries[0], 0))
            thing = [0, [], [book.entries[0]]]
            before = program.text
            growth_holds(program, thing)
            growth_holds(program, tuple(thing))
            self.assertEqual((thing, program.text), ([0, [], [book.entries[0]]], before))


def is_ups(thing):
    """Whether any value is a row of a's."""
    return isinstance(thing, tuple) and all(part == "a" for part in thing)


if __name__ == "__main__":
    unittest.main()
