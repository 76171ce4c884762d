"""Forwarders (point 16): place, log, sent, kept, go, +=, twin, len and ==."""

import random
import unittest

from logfolds.books import Book
from logfolds.errors import NoStep, NothingThere
from logfolds.programs import Program
from logfolds.settled import Forwarder, settled

from tests.helpers import FREE, LAMP, PILE, ROUND, UPDOWN, drawn_book, drawn_program, odd_values, plain_after
from tests.plain_sets import SIX
from tests.test_settled import SWITCH
from tests.test_ways import great_program


def told(forwarder):
    """All that a forwarder tells."""
    return forwarder.place, forwarder.log, forwarder.sent, forwarder.kept, len(forwarder)


class Known(unittest.TestCase):

    def test_example(self):
        forwarder = Forwarder(SWITCH)
        self.assertEqual(
            [forwarder.go(2), forwarder.go(0), forwarder.go(1), forwarder.sent, forwarder.kept],
            [(), ("on", "mark"), (), ("on", "mark"), ("off",)])

    def test_at_first(self):
        self.assertEqual(told(Forwarder(UPDOWN)), (0, (), (), (), 0))
        self.assertEqual(told(Forwarder(UPDOWN, 1)), (1, (), (), (), 0))
        self.assertEqual(told(Forwarder(UPDOWN, None)), (0, (), (), (), 0))
        self.assertEqual(told(Forwarder(place=1, program=UPDOWN)), (1, (), (), (), 0))
        two = Program(PILE, 3, (1, 2), (0,))
        self.assertEqual([Forwarder(two).place, Forwarder(two, 2).place, Forwarder(two, 0).place], [1, 2, 0])

    def test_without_starts(self):
        program = Program(PILE, 2, (), (1,), *UPDOWN.steps)
        self.assertRaises(NothingThere, Forwarder, program)
        self.assertRaises(NothingThere, Forwarder, program, None)
        self.assertEqual(told(Forwarder(program, 1)), (1, (), (), (), 0))

    def test_the_number_at_once_true(self):
        # A place 0 is a place, also if there is no start.
        program = Program(PILE, 1, (), (0,), (0, (), "b", 0))
        forwarder = Forwarder(program, 0)
        self.assertEqual(forwarder.go(0), ("b",))
        self.assertEqual(told(forwarder), (0, ("b",), ("b",), (), 0))


class AlongRuns(unittest.TestCase):

    def drawn(self, seed, many):
        """Drawn programs, with a draw to go on from."""
        draw = random.Random(seed)
        for number in range(many):
            book = (PILE, LAMP, SIX, ROUND)[number // 2 % 4] if number % 2 else drawn_book(draw)
            yield draw, drawn_program(draw, book, 4, 10)

    def test_sent_and_kept(self):
        for draw, program in self.drawn(1801, 200):
            forwarder = Forwarder(program, draw.randrange(program.places))
            place, log, sent = forwarder.place, (), ()
            for _ in range(25):
                behind = plain_after(program, place, log)
                if not behind:
                    break
                number = draw.choice(sorted(behind))
                place, log = behind[number]
                given = forwarder.go(number)
                sent = sent + given
                many = settled(program, place, log)
                self.assertEqual(told(forwarder), (place, log, log[:many], log[many:], len(log) - many))
                # What is sent is sent for good, and all of it is at the beginning of the log.
                self.assertEqual(forwarder.sent, sent)
                self.assertEqual(forwarder.sent + forwarder.kept, forwarder.log)

    def test_two_hundred_steps(self):
        for program in (UPDOWN, SWITCH, great_program(71, SIX), great_program(72, FREE)):
            draw = random.Random(1802)
            forwarder = Forwarder(program)
            sent = ()
            for _ in range(200):
                numbers = program.goes(forwarder.place, forwarder.log)
                if numbers:
                    sent = sent + forwarder.go(draw.choice(numbers))
            self.assertEqual(forwarder.sent, sent)
            self.assertEqual(len(forwarder), len(forwarder.kept))

    def test_plus_keeps_the_object(self):
        for draw, program in self.drawn(1803, 60):
            one, other = Forwarder(program, 0), Forwarder(program, 0)
            same = one
            for _ in range(10):
                numbers = program.goes(one.place, one.log)
                if not numbers:
                    break
                number = draw.choice(numbers)
                one += number
                other.go(number)
                self.assertIs(one, same)
                self.assertEqual(told(one), told(other))
                self.assertTrue(one == other)
        forwarder = Forwarder(SWITCH)
        kept = [forwarder]
        kept[0] += 2
        self.assertIs(kept[0], forwarder)
        self.assertEqual(forwarder.log, ("on",))

    def test_a_step_that_ends_all_sends_all(self):
        # Once the run is at place 1, nothing can be taken back.
        program = Program(PILE, 2, (0,), (1,), (0, (), "a", 0), (0, ("a",), "b", 0), (0, (), "", 1))
        forwarder = Forwarder(program)
        for _ in range(5):
            self.assertEqual(forwarder.go(1), ())
        self.assertEqual(told(forwarder), (0, ("a",) * 5, (), ("a",) * 5, 5))
        self.assertEqual(forwarder.go(2), ())
        self.assertEqual(forwarder.go(0), ("a",) * 4)
        self.assertEqual(told(forwarder), (1, ("a",) * 4, ("a",) * 4, (), 0))


class Refused(unittest.TestCase):

    def check_refused(self, forwarder, number):
        """Checks that a step is refused in both ways, and that nothing changes."""
        before = told(forwarder)
        with self.assertRaises(NoStep) as caught:
            forwarder.go(number)
        self.assertEqual(repr(caught.exception.number), repr(number))
        same = forwarder
        with self.assertRaises(NoStep) as caught:
            forwarder += number
        self.assertEqual(repr(caught.exception.number), repr(number))
        self.assertIs(forwarder, same)
        self.assertEqual(told(forwarder), before)

    def test_any_values(self):
        forwarder = Forwarder(UPDOWN)
        forwarder.go(1)
        for number in [*odd_values(), 3, 60, -1, "0", (0,), [0], False, True, Forwarder(UPDOWN)]:
            if isinstance(number, bool) or number not in (0, 1):
                self.check_refused(forwarder, number)
        self.assertEqual(forwarder.go(0), ())

    def test_steps_that_do_not_go(self):
        forwarder = Forwarder(UPDOWN)
        self.check_refused(forwarder, 2)
        forwarder.go(0)
        for number in (0, 1, 2, 3, -1):
            self.check_refused(forwarder, number)
        self.assertEqual(told(forwarder), (1, (), (), (), 0))

    def test_by_name(self):
        forwarder = Forwarder(UPDOWN)
        self.assertEqual(forwarder.go(number=1), ())
        self.assertRaises(NoStep, forwarder.go, number=True)


class Twins(unittest.TestCase):

    def test_each_goes_its_own_way(self):
        forwarder = Forwarder(SWITCH)
        forwarder.go(2)
        forwarder.go(0)
        other = forwarder.twin()
        self.assertIsNot(other, forwarder)
        self.assertTrue(other == forwarder)
        self.assertEqual(told(other), told(forwarder))
        self.assertEqual(other.go(1), ())
        self.assertEqual([forwarder.log, other.log], [("on", "mark"), ("on", "mark", "off")])
        self.assertTrue(other != forwarder)
        self.assertEqual(forwarder.go(1), ())
        self.assertTrue(other == forwarder)
        third = other.twin().twin()
        self.assertEqual(third.go(0), ("off", "mark"))
        self.assertEqual(other.kept, ("off",))
        self.assertEqual(third.sent, ("on", "mark", "off", "mark"))

    def test_a_twin_that_began_elsewhere(self):
        program = Program(PILE, 2, (), (1,), *UPDOWN.steps)
        forwarder = Forwarder(program, 1)
        self.assertEqual(told(forwarder.twin()), told(forwarder))


class Equal(unittest.TestCase):

    def test_programs_places_and_logs(self):
        same = Program(Book(("a", "b"), ("a", "b", ())), 2, (0,), (1,), *UPDOWN.steps)
        self.assertTrue(Forwarder(UPDOWN) == Forwarder(same))
        self.assertFalse(Forwarder(UPDOWN) != Forwarder(same))
        self.assertTrue(Forwarder(UPDOWN) != Forwarder(UPDOWN, 1))
        one, other = Forwarder(UPDOWN), Forwarder(same)
        one.go(1)
        self.assertTrue(one != other)
        other.go(1)
        self.assertTrue(one == other)
        # By whatever steps they came there.
        back = Program(PILE, 1, (0,), (0,), (0, (), "a", 0), (0, (), "b", 0))
        one, other = Forwarder(back), Forwarder(back)
        for number in (0, 1):
            one.go(number)
        self.assertTrue(one == other)

    def test_other_programs(self):
        rules = Program(Book(("a", "b")), 2, (0,), (1,), *UPDOWN.steps)
        ends = Program(PILE, 2, (0,), (0,), *UPDOWN.steps)
        steps = Program(PILE, 2, (0,), (1,), *UPDOWN.steps[:2])
        places = Program(PILE, 3, (0,), (1,), *UPDOWN.steps)
        for other in (rules, ends, steps, places):
            self.assertTrue(Forwarder(UPDOWN) != Forwarder(other))
            self.assertFalse(Forwarder(UPDOWN) == Forwarder(other))

    def test_other_values(self):
        forwarder = Forwarder(UPDOWN)
        for thing in [*odd_values(), UPDOWN, PILE, (0, ()), (UPDOWN, 0, ())]:
            self.assertIs(forwarder == thing, False)
            self.assertIs(forwarder != thing, True)
            self.assertIs(thing == forwarder, False)
        self.assertTrue(forwarder == forwarder)

    def test_the_program_stays(self):
        before = SWITCH.text
        forwarder = Forwarder(SWITCH)
        for number in (0, 1, 2, 0):
            forwarder += number
        self.assertEqual(SWITCH.text, before)
        self.assertEqual(told(Forwarder(SWITCH)), (0, (), (), (), 0))


if __name__ == "__main__":
    unittest.main()
