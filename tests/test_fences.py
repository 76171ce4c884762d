"""Fences (points 3 and 13): fence, fence_holds; and never both a road and a fence, never neither."""

import random
import unittest

from logfolds.errors import NoRoad
from logfolds.fences import fence, fence_holds
from logfolds.programs import Program
from logfolds.roads import road, road_holds
from logfolds.standing import standing, stands
from logfolds.ways import ways_of

from tests.changed import all_changed
from tests.helpers import FREE, LAMP, PILE, UPDOWN, drawn_program, odd_values
from tests.plain_sets import SIX, first_logs, short_nets
from tests.plain_ways import all_forms, chain_stands, plain_asked, plain_closure
from tests.test_ways import drawn_programs, great_program


def plain_fence_holds(program, place, log, ways, forms):
    """Whether a tuple of any values is a fence, by the words of the document."""
    if not isinstance(ways, tuple) or not all(repr(way) in forms for way in ways):
        return False
    if list(ways) != sorted(set(ways)) or not plain_asked(program, ways) <= set(ways):
        return False
    return not chain_stands(program, set(ways), place, log)


def states_of(program, longest=2):
    """All places with all nets up to this length."""
    return [(place, log) for log in short_nets(program.book, longest) for place in range(program.places)]


class Fences(unittest.TestCase):

    def test_none_exactly_if_it_stands(self):
        for program in drawn_programs(1301, 120):
            states = states_of(program)
            found = {state: fence(program, *state) for state in states}
            standing_ones = [state for state in states if stands(program, *state)]
            self.assertEqual([state for state in states if found[state] is None], standing_ones)
            for state in states:
                if found[state] is not None:
                    self.assertIsInstance(found[state], tuple)
                    self.assertIs(fence_holds(program, *state, found[state]), True)
                    for other in standing_ones:
                        self.assertIs(fence_holds(program, *other, found[state]), False)

    def test_by_the_words_of_the_document(self):
        for program in drawn_programs(1302, 60, 3, 6):
            forms = {repr(form) for form in all_forms(program)}
            for state in states_of(program, 1):
                found = fence(program, *state)
                if found is not None:
                    self.assertTrue(plain_fence_holds(program, *state, found, forms))

    def test_long_logs(self):
        found = fence(UPDOWN, 1, ("b",) + ("a",) * 199)
        self.assertIs(fence_holds(UPDOWN, 1, ("b",) + ("a",) * 199, found), True)
        self.assertIs(fence_holds(UPDOWN, 1, ("a",) * 200, found), False)
        self.assertIsNone(fence(UPDOWN, 1, ("a",) * 200))
        program = Program(FREE, 12, (0,), (0,), *[(k, (), FREE.entries[k % 6], (k + 1) % 12) for k in range(12)])
        log = FREE.entries * 33
        self.assertEqual([fence(program, place, log) is None for place in range(12)], [place == 6 for place in range(12)])

    def test_without_starts_and_without_steps(self):
        program = Program(PILE, 2, (), (1,), *UPDOWN.steps)
        for state in ((0, ()), (1, ("a",))):
            self.assertIs(fence_holds(program, *state, fence(program, *state)), True)
            # Without starts, all ways there are are a fence.
            self.assertIs(fence_holds(program, *state, tuple(all_forms(program))), True)
        program = Program(PILE, 3, (0, 2), (1,))
        self.assertIsNone(fence(program, 2, ()))
        self.assertIs(fence_holds(program, 1, (), fence(program, 1, ())), True)

    def test_great_programs(self):
        for seed, book in ((31, SIX), (32, FREE)):
            program = great_program(seed, book)
            for place in range(12):
                for log in first_logs(~standing(program, place), 2):
                    found = fence(program, place, log)
                    self.assertIs(fence_holds(program, place, log, found), True)
                    other = first_logs(standing(program, place), 1)
                    for stood in other:
                        self.assertIs(fence_holds(program, place, stood, found), False)
                        self.assertIsNone(fence(program, place, stood))

    def test_by_name_and_again(self):
        found = fence(program=UPDOWN, place=0, log=("b",))
        self.assertEqual(found, fence(UPDOWN, 0, ("b",)))
        self.assertIs(fence_holds(program=UPDOWN, place=0, log=("b",), thing=found), True)


class OtherClosedSets(unittest.TestCase):

    def test_greater_ones(self):
        draw = random.Random(1303)
        kinds = [0, 0]
        for program in drawn_programs(1304, 60, 3, 6):
            all_ways = all_forms(program)
            forms = {repr(form) for form in all_ways}
            for _ in range(4):
                ways = plain_closure(program, [draw.choice(all_ways) for _ in range(draw.randrange(1, 3))])
                for state in [draw.choice(states_of(program)) for _ in range(5)]:
                    wanted = plain_fence_holds(program, *state, ways, forms)
                    self.assertIs(fence_holds(program, *state, ways), wanted)
                    kinds[wanted] += 1
                    if wanted:
                        self.assertFalse(stands(program, *state))
        self.assertGreater(min(kinds), 100)

    def test_all_forms_lead_everywhere(self):
        for program in drawn_programs(1305, 30, 3, 6):
            for state in states_of(program, 1):
                self.assertIs(fence_holds(program, *state, tuple(all_forms(program))), not program.starts)

    def test_a_chain_begins_at_a_start(self):
        # The way from place 1 is one that no run takes: with it, a chain would have to begin at place 1.
        program = Program(PILE, 3, (0,), (2,))
        ways = plain_closure(program, [("above", "", 1, "a", 2), ("stays", "", 0, 1)])
        self.assertIs(fence_holds(program, 2, ("a",), ways), True)
        self.assertIs(fence_holds(program, 1, (), ways), False)
        more = plain_closure(program, [("above", "", 0, "a", 2)])
        self.assertIs(fence_holds(program, 2, ("a",), more), False)


class OneThingPutOtherwise(unittest.TestCase):

    def test_one_way_out_and_more(self):
        for program in [UPDOWN, *drawn_programs(1306, 15, 2, 5)]:
            forms = all_forms(program)
            known = {repr(form) for form in forms}
            state = next((state for state in states_of(program) if not stands(program, *state)), None)
            if state is None:
                continue
            ways = fence(program, *state)
            for k in range(len(ways)):
                for other in (ways[:k] + ways[k + 1:], ways[:k] + ways[k:k + 1] + ways[k:],
                              ways[:k] + ways[k + 1:k + 2] + ways[k:k + 1] + ways[k + 2:]):
                    wanted = plain_fence_holds(program, *state, other, known)
                    self.assertIs(fence_holds(program, *state, other), wanted)
                    # The ways of the program are the least closed set, each of them is needed.
                    self.assertIs(wanted, other == ways)
            for way in forms:
                more = tuple(sorted({*ways, way}))
                self.assertIs(fence_holds(program, *state, more), plain_fence_holds(program, *state, more, known))

    def test_drawn_changes(self):
        for seed, program in enumerate(drawn_programs(1307, 25, 3, 6)):
            known = {repr(form) for form in all_forms(program)}
            for state in states_of(program, 1)[:4]:
                found = fence(program, *state)
                if found is not None:
                    for other in all_changed(seed, found, 20):
                        wanted = plain_fence_holds(program, *state, other, known)
                        self.assertIs(fence_holds(program, *state, other), wanted, other)

    def test_of_another_program(self):
        down = Program(PILE, 2, (0,), (1,), (0, (), "b", 1))
        self.assertIs(fence_holds(UPDOWN, 0, ("b",), ways_of(down)), False)
        more = Program(PILE, 3, (0,), (1,), *UPDOWN.steps)
        self.assertIs(fence_holds(UPDOWN, 0, ("b",), ways_of(more)), False)
        self.assertIs(fence_holds(more, 0, ("b",), ways_of(UPDOWN)), False)
        self.assertIs(fence_holds(LAMP_PROGRAM, 0, ("mark",), ways_of(UPDOWN)), False)

    def test_any_values(self):
        for thing in odd_values():
            for state in ((0, ("b",)), (1, ("b", "a"))):
                for other in (thing, (thing,), (thing, thing), [thing]):
                    self.assertIs(fence_holds(UPDOWN, *state, other), False)
        ways = ways_of(UPDOWN)
        for other in (list(ways), tuple(list(way) for way in ways), ways[::-1], (*ways, ways), (ways,)):
            self.assertIs(fence_holds(UPDOWN, 0, ("b",), other), False)


LAMP_PROGRAM = Program(LAMP, 2, (0,), (1,), (0, (), "off", 1))


class NeverBoth(unittest.TestCase):

    def test_never_both_and_never_neither(self):
        draw = random.Random(1308)
        for number in range(80):
            program = drawn_program(draw, (PILE, LAMP, FREE)[number % 3])
            roads = []
            for state in states_of(program, 1 if number % 3 == 2 else 2):
                kept_out = fence(program, *state)
                try:
                    found = road(program, *state)
                except NoRoad:
                    found = None
                self.assertEqual(found is None, kept_out is not None)
                if found is not None:
                    roads.append((state, found))
                    self.assertIs(road_holds(program, *state, found), True)
                    self.assertIs(fence_holds(program, *state, ways_of(program)), False)
                else:
                    self.assertIs(fence_holds(program, *state, kept_out), True)
                    for _, other in roads[:5]:
                        self.assertIs(road_holds(program, *state, other), False)

    def test_told_again_the_same(self):
        before = UPDOWN.text
        for state in states_of(UPDOWN):
            self.assertEqual(fence(UPDOWN, *state), fence(UPDOWN, *state))
        self.assertEqual(UPDOWN.text, before)


if __name__ == "__main__":
    unittest.main()
