"""Settled entries (points 3 and 16): settled, held, holding."""

import random
import unittest

from logfolds.books import Book
from logfolds.errors import NoLog
from logfolds.programs import Program
from logfolds.settled import held, holding, settled
from logfolds.standing import stands

from tests.helpers import CHAINED, FREE, LAMP, MARKS, ONCE, PILE, ROUND, SHORT, SWALLOWED, TURNS, UPDOWN, drawn_book
from tests.helpers import drawn_program, plain_after
from tests.plain_ends import drawn_states
from tests.plain_roads import calling
from tests.plain_sets import SIX, short_nets
from tests.plain_settled import plain_settled
from tests.test_ring import ring_program
from tests.test_standing import renamed, renumbered
from tests.test_ways import drawn_programs, great_program

SWITCH = Program(LAMP, 1, (0,), (0,), (0, (), "mark", 0), (0, (), "off", 0), (0, (), "on", 0))


def opened(program, place, log):
    """How many entries of a log are open."""
    return len(log) - settled(program, place, log)


class Settled(unittest.TestCase):

    def test_known(self):
        self.assertEqual([settled(UPDOWN, 0, ("a",) * many) for many in range(4)], [0, 0, 0, 0])
        self.assertEqual([settled(UPDOWN, 0, log) for log in (("b",), ("b", "a"), ("b", "b", "a", "a"))], [1, 1, 2])
        self.assertEqual(settled(SWITCH, 0, ("on", "mark", "off")), 2)
        self.assertEqual(settled(SWITCH, 0, ("on", "mark")), 2)
        self.assertEqual(settled(SWITCH, 0, ("mark", "on")), 1)
        self.assertEqual(settled(SWITCH, 0, ()), 0)

    def test_a_fold_that_leaves_the_last_entry(self):
        # On behind on leaves it unchanged, so it is settled where only on can come.
        only_on = Program(LAMP, 1, (0,), (0,), (0, (), "on", 0))
        self.assertEqual([settled(only_on, 0, log) for log in (("on",), ("off",), ("mark", "off"))], [1, 0, 1])

    def test_beside_plain_walks(self):
        draw = random.Random(1701)
        kinds = [0, 0]
        for number in range(200):
            book = (PILE, LAMP, TURNS, ONCE, SHORT, ROUND, CHAINED, MARKS, FREE)[number % 9] if number % 2 else drawn_book(draw)
            program = drawn_program(draw, book)
            for place, log in drawn_states(draw, program, 12, 3):
                told = settled(program, place, log)
                many, is_all = plain_settled(program, place, log, len(log) + 3)
                kinds[is_all] += 1
                if is_all:
                    self.assertEqual(told, many)
                else:
                    self.assertLessEqual(told, many)
                    if told < many:
                        # Some folds go by way of longer logs.
                        self.assertEqual(told, plain_settled(program, place, log, len(log) + 6)[0])
        self.assertGreater(min(kinds), 300)

    def test_what_was_settled_stays_so(self):
        draw = random.Random(1702)
        for program in drawn_programs(1703, 120):
            for place, log in drawn_states(draw, program, 10, 3):
                many = settled(program, place, log)
                for other, longer in plain_after(program, place, log).values():
                    self.assertEqual(longer[:many], log[:many])
                    self.assertGreaterEqual(settled(program, other, longer), many)

    def test_nothing_goes(self):
        draw = random.Random(1704)
        for program in drawn_programs(1705, 60):
            for place, log in drawn_states(draw, program, 10, 3):
                if not plain_after(program, place, log):
                    self.assertEqual(settled(program, place, log), len(log))

    def test_what_lies_beneath_does_not_matter(self):
        draw = random.Random(1706)
        for program in drawn_programs(1707, 150):
            book = program.book
            for place, log in drawn_states(draw, program, 8, 3):
                many = settled(program, place, log)
                if many == 0:
                    continue
                for beneath in short_nets(book, 2):
                    other = beneath + log[many - 1:]
                    if book.is_net(other):
                        self.assertEqual(opened(program, place, other), len(log) - many)

    def test_long_logs(self):
        self.assertEqual(settled(UPDOWN, 0, ("a",) * 200), 0)
        self.assertEqual(settled(UPDOWN, 1, ("b",) * 100 + ("a",) * 100), 100)
        self.assertEqual(settled(UPDOWN, 0, ("b",) * 200), 200)
        log = ("on", "mark") * 100
        self.assertEqual(settled(SWITCH, 0, log), 200)
        self.assertEqual(settled(SWITCH, 0, log[1:]), 199)
        self.assertEqual(settled(SWITCH, 0, log[:-1]), 198)

    def test_folds_of_a_fold(self):
        # z takes one entry after the other with it; only a look at the ground or at b lets it be written.
        book = Book(("a", "b", "z"), ("a", "z", ("z",)))
        for looks, wanted in (((), 1), (("a",), 1), (("b",), 6), (("", "b"), 6), (("z",), 6)):
            program = Program(book, 2, (0,), (1,), (0, looks, "z", 1))
            self.assertEqual(settled(program, 0, ("b", "a", "a", "a", "a", "a")), wanted)
            self.assertEqual(settled(program, 1, ("b", "a", "a", "a", "a", "a")), 6)
        program = Program(book, 2, (0,), (1,), (0, ("b",), "z", 1))
        self.assertEqual([settled(program, 0, log) for log in (("b",), ("a", "b"), ("a", "a"))], [1, 2, 2])

    def test_an_entry_turned_several_times_before_it_is_gone(self):
        down = [(0, ("c",), "c", 1), (1, ("b",), "c", 2), (2, ("a",), "c", 3)]
        again = [(3, ("f",), "f", 4), (4, ("e",), "f", 5), (5, ("d",), "f", 6), (6, ("c",), "", 0)]
        program = Program(MARKS, 7, (0,), (6,), *down, *again)
        for log, many in ((("f", "c"), 0), (("b", "f", "c"), 1), (("e", "c"), 1), (("e", "b", "f", "c"), 2),
                          (("c", "f", "c"), 0), (("f", "b"), 2), (("c", "f"), 2), (("d", "c", "f", "c"), 1)):
            self.assertEqual(settled(program, 0, log), many)
        self.assertEqual(settled(program, 3, ("c", "f")), 0)
        # A place that can write any mark, and then goes down so.
        both = Program(MARKS, 7, (0,), (6,), (0, (), "c", 0), (0, (), "f", 0), *program.steps)
        self.assertIsNone(held(both))
        self.assertEqual(holding(both, 2), (0, ("a", "d")))

    def test_what_is_beneath_is_left_unchanged_by_a_fold_and_then_gone(self):
        program = Program(SWALLOWED, 4, (0,), (3,), (0, ("x",), "z", 2), (2, ("c",), "y", 3))
        for log, many in ((("c", "x"), 0), (("x",), 0), (("b", "x"), 1), (("c", "c", "x"), 1), (("c", "c"), 2)):
            self.assertEqual(settled(program, 0, log), many)
        only_swallowed = Program(SWALLOWED, 4, (0,), (3,), program.steps[0])
        self.assertEqual([settled(only_swallowed, 0, log) for log in (("c", "x"), ("c", "c", "x"))], [1, 2])
        written = Program(SWALLOWED, 4, (1,), (3,), (1, (), "c", 1), (1, ("c",), "x", 0), *program.steps)
        self.assertEqual([held(written), holding(written, 2)], [2, (0, ("c", "x"))])

    def test_steps_that_come_only_after_others(self):
        # From place 0 a has to be gone before b can go; from place 1 nothing more can.
        book = Book(("a", "b", "c", "d"), ("a", "c", ()), ("b", "d", ()))
        program = Program(book, 2, (0,), (1,), (0, ("a",), "c", 0), (0, ("b",), "d", 1))
        log = ("b", "b", "a", "a")
        self.assertEqual([settled(program, place, log) for place in (0, 1)], [1, 4])
        self.assertEqual(settled(program, 0, ("b", "a", "b", "a")), 2)

    def test_marks(self):
        # Nothing folds with a mark, so all up to the last mark is settled.
        draw = random.Random(1708)
        for number in range(30):
            program = drawn_program(draw, LAMP)
            for place, log in drawn_states(draw, program, 20, 4):
                marks = [k + 1 for k, entry in enumerate(log) if entry == "mark"]
                self.assertGreaterEqual(settled(program, place, log), max(marks, default=0))

    def test_programs_that_write_nothing_settle_all(self):
        draw = random.Random(1709)
        for program in drawn_programs(1710, 40):
            steps = [(place, looks, "", to) for place, looks, _, to in program.steps]
            other = Program(program.book, program.places, program.starts, program.ends, *steps)
            for place, log in drawn_states(draw, program, 5, 3):
                self.assertEqual(settled(other, place, log), len(log))

    def test_by_name(self):
        self.assertEqual(settled(program=SWITCH, place=0, log=("mark", "on")), 1)
        self.assertEqual(held(program=SWITCH), 1)
        self.assertEqual(holding(program=SWITCH, many=1), (0, ("off",)))


class Held(unittest.TestCase):

    def test_known(self):
        self.assertEqual([held(SWITCH), held(UPDOWN)], [1, None])
        self.assertEqual(held(Program(PILE, 1, (0,), (0,))), 0)
        self.assertEqual(held(Program(PILE, 1, (0,), (0,), (0, (), "a", 0))), 0)
        self.assertEqual(held(ring_program()), 0)
        steps = [(place, (), "a", place + 1) for place in range(4)] + [(4, ("a",), "b", 4)]
        self.assertEqual(held(Program(PILE, 5, (0,), (4,), *steps)), 4)
        # Where just one can be taken back, just one is open.
        one = [(0, (), "a", 0), (0, (), "", 1), (1, ("a",), "b", 2)]
        self.assertEqual(held(Program(PILE, 3, (0,), (2,), *one)), 1)
        self.assertEqual(held(Program(PILE, 4, (0,), (2,), *one, (2, ("a",), "b", 3))), 2)

    def test_open_only_in_what_stands(self):
        # Any number could be taken back at place 1, but no more than two stand there.
        steps = [(0, (), "a", 2), (2, (), "a", 1), (1, ("a",), "b", 1)]
        self.assertEqual(held(Program(PILE, 3, (0,), (1,), *steps)), 2)
        self.assertIsNone(held(Program(PILE, 3, (0,), (1,), *steps, (0, (), "a", 0))))

    def test_without_starts(self):
        for program in drawn_programs(1711, 20):
            nowhere = Program.of(program.book, program.places, (), program.ends, program.steps)
            self.assertRaises(NoLog, held, nowhere)
            for many in (-1, 0, 1, 10 ** 39):
                self.assertIsNone(holding(nowhere, many))

    def test_beside_all_short_logs(self):
        draw = random.Random(1712)
        for number in range(250):
            book = (PILE, LAMP, MARKS, ONCE, ROUND, CHAINED)[number // 2 % 6] if number % 2 else drawn_book(draw)
            program = drawn_program(draw, book)
            if not program.starts:
                continue
            longest = 4 if len(book.entries) < 3 else 3
            states = {
                (place, log): opened(program, place, log) for log in short_nets(book, longest)
                for place in range(program.places) if stands(program, place, log)}
            greatest = held(program)
            if greatest is not None:
                self.assertLessEqual(max(states.values()), greatest)
            for many in (-(10 ** 39), -1, 0, 1, 2, 3, 4, 6):
                found = holding(program, many)
                wanted = [state for state, number in states.items() if number >= many]
                if wanted:
                    self.assertEqual(found, min(wanted, key=lambda state: (len(state[1]), state[1], state[0])))
                elif found is None:
                    self.assertTrue(greatest is not None and greatest < many)
                else:
                    self.assertTrue(greatest is None or greatest >= many)
                    self.assertGreater(len(found[1]), longest)
                    self.assertTrue(stands(program, *found))
                    self.assertGreaterEqual(opened(program, *found), many)
            if greatest is not None:
                self.assertEqual(opened(program, *holding(program, greatest)), greatest)
                for many in (greatest + 1, greatest + 2, 10 ** 39):
                    self.assertIsNone(holding(program, many))

    def test_great_programs(self):
        for seed, book in ((61, SIX), (62, FREE), (63, SIX), (64, LAMP)):
            program = great_program(seed, book)
            greatest = held(program)
            for many in (1, 2, 7, 50) if greatest is None else (1, greatest):
                found = holding(program, many)
                if found is not None:
                    self.assertTrue(stands(program, *found))
                    self.assertGreaterEqual(opened(program, *found), many)
            if greatest is not None:
                self.assertIsNone(holding(program, greatest + 1))

    def test_procedures(self):
        for counts in ([2], [3, 1], [2, 2, 2], [3] * 11):
            program, _ = calling(counts)
            # All marks are taken back once more, and there is one of each procedure that is at work.
            self.assertEqual(held(program), len(counts))
            self.assertEqual(len(holding(program, len(counts))[1]), len(counts))

    def test_many(self):
        self.assertEqual(holding(UPDOWN, 200), (0, ("a",) * 200))
        self.assertEqual(holding(UPDOWN, 1000), (0, ("a",) * 1000))
        self.assertEqual(holding(UPDOWN, 1), (0, ("a",)))
        self.assertEqual([holding(UPDOWN, many) for many in (0, -1, -(10 ** 39))], [(0, ())] * 3)
        self.assertEqual(holding(Program(PILE, 3, (2,), (), (2, (), "", 1)), 0), (1, ()))
        for many in (2, 200, 10 ** 39):
            self.assertIsNone(holding(SWITCH, many))

    def test_the_least_by_the_log_then_by_the_place(self):
        # What is beneath the open entries counts for the length, and for the order.
        book = Book(("a", "b", "m", "z"), ("a", "z", ()), ("b", "z", ()))
        steps = [(0, (), "m", 1), (1, (), "b", 3), (1, (), "a", 2), (2, (), "b", 3), (2, (), "b", 4), (3, (), "z", 3),
                 (4, (), "z", 4)]
        program = Program(book, 5, (0,), (3,), *steps)
        self.assertEqual(holding(program, 1), (2, ("m", "a")))
        self.assertEqual(holding(program, 2), (3, ("m", "a", "b")))
        self.assertEqual(holding(Program(book, 5, (0,), (3,), *steps, (0, (), "b", 1)), 2), (2, ("b", "a")))
        self.assertEqual(held(program), 2)

    def test_again_and_unchanged(self):
        for program in (UPDOWN, SWITCH, *drawn_programs(1713, 20)):
            before = program.text
            if program.starts:
                self.assertEqual(held(program), held(program))
            self.assertEqual([holding(program, many) for many in range(3)], [holding(program, many) for many in range(3)])
            self.assertEqual(program.text, before)


class ToldOtherwise(unittest.TestCase):

    def test_other_names_and_numbers(self):
        draw = random.Random(1714)
        for program in drawn_programs(1715, 50):
            names = {entry: "k" + entry[:7] for entry in program.book.entries}
            numbers = draw.sample(range(program.places), program.places)
            for other, name, number in (
                    (renamed(program, names), names, list(range(program.places))),
                    (renumbered(program, numbers), {entry: entry for entry in names}, numbers),
                    (Program.read(program.text), {entry: entry for entry in names}, list(range(program.places)))):
                for place, log in drawn_states(draw, program, 5, 3):
                    there = tuple(name[entry] for entry in log)
                    self.assertEqual(settled(other, number[place], there), settled(program, place, log))
                if program.starts:
                    self.assertEqual(held(other), held(program))
                for many in (1, 2):
                    one, two = holding(program, many), holding(other, many)
                    self.assertEqual(one is None, two is None)
                    if one is not None:
                        self.assertEqual(tuple(name[entry] for entry in one[1]), two[1])

    def test_put_together(self):
        draw = random.Random(1716)
        for number in range(60):
            book = (PILE, LAMP, TURNS, ONCE, SHORT)[number % 5]
            one, other = drawn_program(draw, book, 3, 6), drawn_program(draw, book, 3, 6)
            either = one | other
            for place, log in drawn_states(draw, one, 4, 3):
                self.assertEqual(settled(either, place, log), settled(one, place, log))
                # Whatever comes besides, no more is settled.
                self.assertLessEqual(settled(one + other, place, log), settled(one, place, log))
                self.assertLessEqual(settled(one.again(), place, log), settled(one, place, log))
                for b in range(other.places):
                    self.assertLessEqual(settled(one & other, place * other.places + b, log), settled(one, place, log))
            if one.starts and other.starts:
                parts = [held(one), held(other)]
                self.assertEqual(held(either), None if None in parts else max(parts))
            for place, log in drawn_states(draw, other, 4, 3):
                self.assertEqual(settled(one + other, one.places + place, log), settled(other, place, log))


class Few(unittest.TestCase):

    def test_what_is_left_of_a_book_without_rules_is_settled(self):
        draw = random.Random(1717)
        for number in range(20):
            program = drawn_program(draw, FREE)
            for place, log in drawn_states(draw, program, 5):
                self.assertEqual(settled(program, place, log), len(log))
            if program.starts:
                self.assertEqual(held(program), 0)
                self.assertEqual(holding(program, 0)[1], ())
                self.assertIsNone(holding(program, 1))


if __name__ == "__main__":
    unittest.main()
