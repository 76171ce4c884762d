"""Closed sets of ways (point 10): closed_holds."""

import random
import unittest

from logfolds.programs import Program
from logfolds.ways import closed_holds, ways_of

from tests.helpers import PILE, UPDOWN, odd_values
from tests.plain_sets import SIX
from tests.plain_ways import all_forms, plain_asked, plain_closure
from tests.test_ways import drawn_programs, great_program


def plain_holds(program, ways):
    """Whether a set of ways is closed, by the words of the document."""
    return plain_asked(program, ways) <= set(ways)


class Closed(unittest.TestCase):

    def test_the_ways_of_a_program(self):
        for program in drawn_programs(941, 150):
            self.assertIs(closed_holds(program, ways_of(program)), True)

    def test_greater_closed_sets(self):
        draw = random.Random(942)
        for program in drawn_programs(943, 100, 3, 6):
            forms = all_forms(program)
            for _ in range(3):
                more = [draw.choice(forms) for _ in range(draw.randrange(1, 4))]
                self.assertIs(closed_holds(program, plain_closure(program, more)), True)
            self.assertIs(closed_holds(program, tuple(forms)), True)

    def test_great_programs(self):
        program = great_program(1, SIX)
        ways = ways_of(program)
        self.assertIs(closed_holds(program, ways), True)
        self.assertIs(closed_holds(program, ways[:700] + ways[701:]), plain_holds(program, ways[:700] + ways[701:]))
        self.assertIs(closed_holds(program, tuple(all_forms(program))), True)

    def test_by_name(self):
        self.assertIs(closed_holds(program=UPDOWN, thing=ways_of(UPDOWN)), True)


class OneThingPutOtherwise(unittest.TestCase):

    def check_changed(self, program, ways, forms):
        """Checks a closed set with each way left out, and with each other one put in."""
        for k in range(len(ways)):
            less = ways[:k] + ways[k + 1:]
            self.assertIs(closed_holds(program, less), plain_holds(program, less))
        for way in forms:
            if way not in ways:
                more = tuple(sorted((*ways, way)))
                self.assertIs(closed_holds(program, more), plain_holds(program, more))

    def test_left_out_and_put_in(self):
        draw = random.Random(944)
        for program in [UPDOWN, *drawn_programs(945, 25, 2, 5)]:
            forms = all_forms(program)
            self.check_changed(program, ways_of(program), forms)
            self.check_changed(program, plain_closure(program, [draw.choice(forms)]), forms)
            self.check_changed(program, tuple(forms), forms)

    def test_nothing_of_the_least_set_can_be_left_out(self):
        for program in drawn_programs(946, 60):
            ways = ways_of(program)
            for k in range(len(ways)):
                self.assertIs(closed_holds(program, ways[:k] + ways[k + 1:]), False)

    def test_each_line_of_the_document(self):
        program = Program(PILE, 1, (0,), (0,), (0, ("b",), "a", 0))
        ways = ways_of(program)
        self.assertEqual(
            ways, (("above", "b", 0, "a", 0), ("stays", "", 0, 0), ("stays", "a", 0, 0), ("stays", "b", 0, 0)))
        # With b above the ground, a is written above it, and then stands there.
        more = (*ways, ("above", "", 0, "b", 0))
        self.assertIs(closed_holds(program, tuple(sorted(more))), True)
        # With a turned to (), b stays with nothing above it; with a turned to b, b is above b.
        more = (*ways, ("turns", "a", 0, (), 0))
        self.assertIs(closed_holds(program, tuple(sorted(more))), True)
        more = (*ways, ("turns", "a", 0, ("b",), 0))
        self.assertIs(closed_holds(program, tuple(sorted(more))), False)
        more = (*more, ("above", "b", 0, "b", 0))
        self.assertIs(closed_holds(program, tuple(sorted(more))), True)

    def test_told_twice(self):
        for program in [UPDOWN, *drawn_programs(947, 20)]:
            ways = ways_of(program)
            for k in range(len(ways)):
                self.assertIs(closed_holds(program, ways[:k] + (ways[k],) + ways[k:]), False)
            self.assertIs(closed_holds(program, ways + ways), False)

    def test_out_of_order(self):
        for program in [UPDOWN, *drawn_programs(948, 20)]:
            ways = ways_of(program)
            for k in range(len(ways) - 1):
                self.assertIs(closed_holds(program, (*ways[:k], ways[k + 1], ways[k], *ways[k + 2:])), False)
            self.assertIs(closed_holds(program, ways[::-1]), False)
            self.assertIs(closed_holds(program, ways[1:] + ways[:1]), False)

    def test_other_programs(self):
        other = Program(PILE, 2, (0,), (1,), (0, (), "b", 0))
        self.assertIs(closed_holds(other, ways_of(UPDOWN)), False)
        self.assertIs(closed_holds(UPDOWN, ways_of(other)), False)
        self.assertIs(closed_holds(Program(PILE, 3, (0,), (1,), *UPDOWN.steps), ways_of(UPDOWN)), False)
        self.assertIs(closed_holds(Program(PILE, 1, (0,), (0,)), ways_of(UPDOWN)), False)


class AnyValue(unittest.TestCase):

    def test_odd_values(self):
        for thing in odd_values():
            self.assertIs(closed_holds(UPDOWN, thing), False)

    def test_other_kinds(self):
        ways = ways_of(UPDOWN)
        for thing in (
                list(ways), {way: True for way in ways}, repr(ways), (ways,), [ways], None, (), UPDOWN,
                tuple(list(way) for way in ways), (*ways, None), (*ways, "z"), (None, *ways), (*ways, ("z",)),
                (*ways, list(ways[-1])), (*ways, ())):
            self.assertIs(closed_holds(UPDOWN, thing), False)

    def test_one_part_of_one_way_spoilt(self):
        ways = ways_of(UPDOWN)
        for k, way in enumerate(ways):
            for at in range(len(way)):
                for part in odd_values():
                    thing = (*ways[:k], (*way[:at], part, *way[at + 1:]), *ways[k + 1:])
                    same = repr(thing) == repr(ways)
                    self.assertIs(closed_holds(UPDOWN, thing), same, thing[k])

    def test_what_is_passed_stays(self):
        ways = list(ways_of(UPDOWN))
        before = repr(ways), UPDOWN.text
        closed_holds(UPDOWN, ways)
        closed_holds(UPDOWN, tuple(ways[1:]))
        self.assertEqual((repr(ways), UPDOWN.text), before)


if __name__ == "__main__":
    unittest.main()
