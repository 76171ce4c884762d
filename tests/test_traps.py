"""The least trap, the least stuck state, and the least log that is not cleared (point 15)."""

import random
import unittest

from logfolds.books import Book
from logfolds.ends import can_end, endings, fewest, stuck_state, trap, unclear_log
from logfolds.errors import OtherBook
from logfolds.logsets import LogSet
from logfolds.programs import Program
from logfolds.standing import left, standing, stands

from tests.helpers import FREE, LAMP, MARKS, PILE, ROUND, SHORT, TURNS, UPDOWN, drawn_program, plain_after
from tests.plain_sets import SIX, first_logs, short_nets
from tests.test_ring import ring_program
from tests.test_standing import renamed, renumbered
from tests.test_ways import drawn_programs, great_program

DOWN = Program(PILE, 1, (0,), (0,), (0, ("a",), "b", 0))


def least_of(states):
    """The least one of some states (place, log), or None."""
    return min(states, key=lambda state: (len(state[1]), state[1], state[0]), default=None)


def least_standing(program, wanted):
    """The least state that stands of which this is so, by the sets of logs; wanted takes a place, a set to choose of."""
    found = []
    for place in range(program.places):
        chosen = wanted(place, standing(program, place))
        if chosen:
            found.append((place, chosen.least()))
    return least_of(found)


class Traps(unittest.TestCase):

    def test_known(self):
        self.assertIsNone(trap(UPDOWN))
        self.assertEqual(trap(Program(PILE, 2, (0,), (), *UPDOWN.steps)), (0, ()))
        # Place 2 can be left only with nothing on the log.
        program = Program(PILE, 4, (0,), (3,), (0, (), "a", 0), (0, (), "", 3), (0, (), "", 2), (2, ("",), "", 3))
        self.assertEqual(trap(program), (2, ("a",)))
        program = Program(PILE, 4, (0,), (3,), *program.steps, (2, ("a",), "b", 2))
        self.assertIsNone(trap(program))
        # Two at a time are taken back: an odd number is never gone.
        steps = [(0, (), "a", 0), (0, (), "", 1), (1, ("a",), "b", 2), (2, ("a",), "b", 1), (1, ("",), "", 3)]
        self.assertEqual(trap(Program(PILE, 4, (0,), (3,), *steps)), (2, ()))
        self.assertEqual(trap(Program(PILE, 4, (0,), (2, 3), *steps)), None)

    def test_the_least_log_goes_before_the_least_place(self):
        program = Program(FREE, 4, (0,), (), (0, (), "a", 1), (0, (), "b", 2), (1, (), "c", 3))
        self.assertEqual(trap(program), (0, ()))
        ends = Program(FREE, 4, (0,), (0,), *program.steps)
        self.assertEqual(trap(ends), (1, ("a",)))
        ends = Program(FREE, 4, (0,), (0, 3), *program.steps)
        self.assertEqual(trap(ends), (2, ("b",)))
        # Two places with one log: the lesser place.
        twice = Program(FREE, 4, (0,), (0,), (0, (), "a", 3), (0, (), "a", 2))
        self.assertEqual(trap(twice), (2, ("a",)))

    def test_beside_the_sets(self):
        for program in drawn_programs(1501, 250):
            found = least_standing(program, lambda place, here: here - endings(program, place))
            self.assertEqual(trap(program), found)
            if found is not None:
                self.assertTrue(stands(program, *found))
                self.assertFalse(can_end(program, *found))

    def test_beside_all_short_logs(self):
        for program in drawn_programs(1502, 120, 3, 7):
            states = [
                (place, log) for log in short_nets(program.book, 3 if len(program.book.entries) < 5 else 2)
                for place in range(program.places)
                if stands(program, place, log) and fewest(program, place, log) is None]
            if states:
                self.assertEqual(trap(program), least_of(states))
            elif trap(program) is not None:
                self.assertGreater(len(trap(program)[1]), 2)

    def test_behind_a_trap_are_traps(self):
        for program in drawn_programs(1503, 120):
            if trap(program) is not None:
                waiting, seen = [trap(program)], set()
                while waiting and len(seen) < 30:
                    state = waiting.pop()
                    seen.add(state)
                    self.assertNotIn(state[0], program.ends)
                    waiting.extend(set(plain_after(program, *state).values()) - seen)

    def test_great_programs(self):
        for seed, book in ((51, SIX), (52, FREE), (53, SIX), (54, FREE)):
            program = great_program(seed, book)
            found = least_standing(program, lambda place, here: here - endings(program, place))
            self.assertEqual(trap(program), found)
        program = ring_program()
        self.assertIsNone(trap(program))
        without_ends = Program(program.book, 12, program.starts, (), *program.steps)
        self.assertEqual(trap(without_ends), (0, ()))

    def test_by_name_and_again(self):
        self.assertEqual([trap(program=UPDOWN), trap(UPDOWN)], [None, None])


class StuckStates(unittest.TestCase):

    def test_known(self):
        self.assertIsNone(stuck_state(UPDOWN))
        self.assertEqual(stuck_state(Program(PILE, 2, (0,), (0,), *UPDOWN.steps)), (1, ()))
        program = Program(PILE, 3, (0,), (2,), (0, (), "a", 0), (0, (), "", 1), (1, ("",), "", 2))
        self.assertEqual(stuck_state(program), (1, ("a",)))
        self.assertIsNone(stuck_state(Program(PILE, 3, (0,), (1, 2), *program.steps)))

    def test_looks_at_several_entries_and_the_ground(self):
        steps = [(0, (), entry, 1) for entry in "abcdef"]
        for looks, wanted in (
                (("a",), ("b",)), (("a", "b"), ("c",)), (("a", "b", "c"), ("d",)), (("", "a", "b"), ("c",)),
                (("",), ("a",)), (("b", "c", "d"), ("a",)), (tuple("abcdef"), None), ((), None)):
            program = Program(FREE, 3, (0,), (2,), *steps, (1, looks, "", 2))
            self.assertEqual(stuck_state(program), None if wanted is None else (1, wanted))
            # With a look at the ground alone, nothing that place 0 writes comes to the end.
            wanted = (0, ()) if looks == ("",) else None if wanted is None else (1, wanted)
            self.assertEqual(trap(program), wanted)
        program = Program(FREE, 3, (0, 1), (2,), *steps, (1, tuple("abcdef"), "", 2))
        self.assertEqual(stuck_state(program), (1, ()))

    def test_beside_all_short_logs(self):
        for program in drawn_programs(1504, 250):
            states = [
                (place, log) for log in short_nets(program.book, 3 if len(program.book.entries) < 5 else 2)
                for place in range(program.places)
                if place not in program.ends and stands(program, place, log) and not plain_after(program, place, log)]
            found = stuck_state(program)
            if states:
                self.assertEqual(found, least_of(states))
            elif found is not None:
                self.assertGreater(len(found[1]), 2)
                self.assertTrue(stands(program, *found))
                self.assertEqual((plain_after(program, *found), found[0] in program.ends), ({}, False))

    def test_never_at_an_end_and_always_a_trap(self):
        for program in drawn_programs(1505, 150):
            found = stuck_state(program)
            if found is not None:
                self.assertNotIn(found[0], program.ends)
                self.assertFalse(can_end(program, *found))
                self.assertIsNotNone(trap(program))
            everywhere = Program.of(
                program.book, program.places, program.starts, tuple(range(program.places)), program.steps)
            self.assertEqual([stuck_state(everywhere), trap(everywhere)], [None, None])

    def test_without_starts_steps_and_ends(self):
        for program in drawn_programs(1506, 40):
            nowhere = Program.of(program.book, program.places, (), program.ends, program.steps)
            self.assertEqual([trap(nowhere), stuck_state(nowhere)], [None, None])
            still = Program(program.book, program.places, program.starts, program.ends)
            places = [place for place in program.starts if place not in program.ends]
            wanted = (places[0], ()) if places else None
            self.assertEqual([trap(still), stuck_state(still)], [wanted, wanted])
            endless = Program.of(program.book, program.places, program.starts, (), program.steps)
            places = [place for place in range(program.places) if stands(program, place, ())]
            self.assertEqual(trap(endless), (places[0], ()) if places else None)

    def test_a_long_way(self):
        # The log is stuck only behind eleven entries.
        steps = [(place, (), "a", place + 1) for place in range(11)]
        program = Program(FREE, 12, (0,), (), *steps)
        self.assertEqual(stuck_state(program), (11, ("a",) * 11))
        self.assertEqual(trap(Program(FREE, 12, (0,), (10,), *steps)), (11, ("a",) * 11))


class Clearing(unittest.TestCase):

    def test_examples(self):
        one = Program(PILE, 1, (0,), (0,))
        self.assertEqual([trap(UPDOWN), unclear_log(UPDOWN, one), unclear_log(UPDOWN, DOWN)], [None, ("a",), None])

    def drawn_pairs(self, seed, many):
        """Drawn pairs of programs with one book."""
        draw = random.Random(seed)
        for number in range(many):
            book = (PILE, LAMP, TURNS, ROUND, SHORT, MARKS)[number % 6]
            yield drawn_program(draw, book, 3, 6), drawn_program(draw, book, 3, 7)

    def test_beside_left_and_endings(self):
        kinds = [0, 0]
        for program, other in self.drawn_pairs(1507, 500):
            nothing = LogSet.of(program.book, ())
            cleared = LogSet.none(program.book)
            for start in other.starts:
                cleared = cleared | endings(other, start, nothing)
            kept = left(program) - cleared
            found = unclear_log(program, other)
            self.assertEqual(found, kept.least() if kept else None)
            kinds[found is None] += bool(left(program))
            for log in first_logs(left(program), 5):
                told = [fewest(other, start, log, nothing) for start in other.starts]
                is_cleared = any(many is not None for many in told)
                self.assertIs(any([can_end(other, start, log, nothing) for start in other.starts]), is_cleared)
                if found is None:
                    self.assertTrue(is_cleared)
                elif log == found:
                    self.assertFalse(is_cleared)
                elif (len(log), log) < (len(found), found):
                    self.assertTrue(is_cleared)
        self.assertGreater(min(kinds), 8)

    def test_without_starts(self):
        nobody = Program(PILE, 1, (), (0,), *DOWN.steps)
        self.assertEqual(unclear_log(UPDOWN, nobody), ())
        self.assertIsNone(unclear_log(nobody, nobody))
        self.assertIsNone(unclear_log(Program(PILE, 1, (0,), ()), nobody))
        self.assertEqual(unclear_log(Program(PILE, 2, (0,), (1,), (0, (), "a", 1)), nobody), ("a",))
        self.assertEqual(unclear_log(UPDOWN, Program(PILE, 1, (0,), ())), ())

    def test_several_starts(self):
        # One start clears logs with an even number of entries, the other one those with an odd one.
        steps = [(0, ("a",), "b", 1), (1, ("a",), "b", 0)]
        both = Program(PILE, 2, (0, 1), (0,), *steps)
        self.assertIsNone(unclear_log(UPDOWN, both))
        self.assertEqual(unclear_log(UPDOWN, Program(PILE, 2, (0,), (0,), *steps)), ("a",))
        self.assertEqual(unclear_log(UPDOWN, Program(PILE, 2, (1,), (0,), *steps)), ())

    def test_least_long_log(self):
        # What is left has up to 20 entries, and all but the longest one is cleared.
        steps = [(place, (), "a", place + 1) for place in range(11)] + [(11, (), "a", 0)]
        program = Program(PILE, 12, (0,), (7,), *steps)
        down = Program(PILE, 12, (0,), (11,), *[(place, ("a",), "b", place + 1) for place in range(11)],
                       *[(place, ("",), "", 11) for place in range(11)])
        self.assertEqual(unclear_log(program, down), ("a",) * 19)

    def test_great_programs(self):
        for seed, book in ((55, SIX), (56, FREE)):
            program, other = great_program(seed, book), great_program(seed + 100, book)
            nothing = LogSet.of(book, ())
            cleared = endings(other, other.starts[0], nothing)
            for start in other.starts[1:]:
                cleared = cleared | endings(other, start, nothing)
            kept = left(program) - cleared
            self.assertEqual(unclear_log(program, other), kept.least() if kept else None)

    def test_other_books(self):
        for book in (Book(("a", "b")), Book(("a", "b", "c"), ("a", "b", ()))):
            other = Program(book, 1, (0,), (0,))
            self.assertRaises(OtherBook, unclear_log, UPDOWN, other)
            self.assertRaises(OtherBook, unclear_log, other, UPDOWN)
            self.assertRaises(OtherBook, unclear_log, Program(PILE, 1, (), ()), other)
        same = Program(Book(("a", "b"), ("a", "b", ())), 1, (0,), (0,), (0, ("a",), "b", 0))
        self.assertIsNone(unclear_log(UPDOWN, same))

    def test_by_name_and_again(self):
        before = UPDOWN.text, DOWN.text
        for _ in range(2):
            self.assertIsNone(unclear_log(program=UPDOWN, other=DOWN))
            self.assertIsNone(unclear_log(other=UPDOWN, program=DOWN))
        self.assertEqual((UPDOWN.text, DOWN.text), before)


class ToldOtherwise(unittest.TestCase):

    def test_other_names_in_the_same_order(self):
        for program in drawn_programs(1508, 60):
            names = {entry: "n" + entry[:7] for entry in program.book.entries}
            other = renamed(program, names)
            for ask in (trap, stuck_state):
                found = ask(program)
                wanted = None if found is None else (found[0], tuple(names[entry] for entry in found[1]))
                self.assertEqual(ask(other), wanted)

    def test_other_numbers(self):
        draw = random.Random(1509)
        for program in drawn_programs(1510, 60):
            numbers = draw.sample(range(program.places), program.places)
            other = renumbered(program, numbers)
            for ask in (trap, stuck_state):
                one, two = ask(program), ask(other)
                self.assertEqual(one is None, two is None)
                if one is not None:
                    self.assertEqual(one[1], two[1])
            raised = renumbered(program, [place + 2 for place in range(program.places)], program.places + 2)
            for ask in (trap, stuck_state):
                found = ask(program)
                self.assertEqual(ask(raised), None if found is None else (found[0] + 2, found[1]))

    def test_steps_told_twice_and_in_another_order(self):
        for program in drawn_programs(1511, 40):
            other = Program(
                program.book, program.places, program.starts, program.ends, *program.steps[::-1], *program.steps)
            self.assertEqual([trap(other), stuck_state(other)], [trap(program), stuck_state(program)])
            self.assertEqual(unclear_log(other, program), unclear_log(program, other))


if __name__ == "__main__":
    unittest.main()
