"""Roads, fences and ends of programs put together (point 8), beside those of their parts; and of programs told otherwise."""

import random
import unittest

from logfolds.ends import can_end, ending_run, endings, fewest
from logfolds.fences import fence, fence_holds
from logfolds.logsets import LogSet
from logfolds.programs import Program
from logfolds.roads import length_of, road, road_holds, run_of
from logfolds.standing import left, standing, stands

from tests.helpers import LAMP, ONCE, PILE, ROUND, SHORT, TURNS, drawn_program
from tests.plain_ends import drawn_goal, drawn_states, is_ended
from tests.plain_roads import plain_end_of
from tests.plain_sets import first_logs
from tests.test_standing import renamed, renumbered
from tests.test_ways import drawn_programs


def drawn_pairs(seed, many):
    """Drawn pairs of programs with one book, and goals."""
    draw = random.Random(seed)
    for number in range(many):
        book = (PILE, LAMP, TURNS, ONCE, SHORT, ROUND)[number % 6]
        yield draw, drawn_program(draw, book, 3, 6), drawn_program(draw, book, 3, 6), drawn_goal(draw, book)


def least_number(numbers):
    """The least of some numbers, None standing for none at all."""
    return min([number for number in numbers if number is not None], default=None)


def union(book, sets):
    """All logs of some sets."""
    found = LogSet.none(book)
    for logset in sets:
        found = found | logset
    return found


class Ends(unittest.TestCase):

    def test_one_after_the_other(self):
        # From the first program one comes to an end just as one comes to a log from which the second one does.
        for _, one, other, goal in drawn_pairs(1601, 80):
            after = union(one.book, [endings(other, start, goal) for start in other.starts])
            both = one + other
            for place in range(one.places):
                self.assertEqual(endings(both, place, goal), endings(one, place, after))
            for place in range(other.places):
                self.assertEqual(endings(both, one.places + place, goal), endings(other, place, goal))

    def test_fewest_of_one_after_the_other(self):
        for draw, one, other, goal in drawn_pairs(1602, 60):
            both = one + other
            for place, log in drawn_states(draw, one, 4):
                told = fewest(both, place, log, goal)
                if told is None:
                    continue
                run = ending_run(both, place, log, goal)
                bridge = next(k for k, number in enumerate(run) if both.steps[number][3] >= one.places)
                middle = plain_end_of(both, place, log, run[:bridge])
                self.assertIn(middle[0], one.ends)
                rest = [fewest(other, start, middle[1], goal) for start in other.starts]
                self.assertEqual(told - bridge - 1, least_number(rest))
                self.assertEqual(bridge, fewest(one, place, log, LogSet.of(one.book, middle[1])))

    def test_either(self):
        for draw, one, other, goal in drawn_pairs(1603, 80):
            either = one | other
            for place in range(one.places):
                self.assertEqual(endings(either, place, goal), endings(one, place, goal))
            for place in range(other.places):
                self.assertEqual(endings(either, one.places + place, goal), endings(other, place, goal))
            for place, log in drawn_states(draw, one, 4):
                self.assertEqual(fewest(either, place, log, goal), fewest(one, place, log, goal))

    def test_again(self):
        # The ends of the program once more: as many rounds as one likes.
        for draw, one, _, goal in drawn_pairs(1604, 80):
            again = one.again()
            wished = LogSet.every(one.book) if goal is None else goal
            while True:
                more = wished | union(one.book, [endings(one, start, wished) for start in one.starts])
                if more == wished:
                    break
                wished = more
            for place in range(one.places):
                self.assertEqual(endings(again, place, goal), endings(one, place, wished))

    def test_both_at_once(self):
        for draw, one, other, goal in drawn_pairs(1605, 60):
            woven, turned = one & other, other & one
            for place, log in drawn_states(draw, one, 4):
                for b in range(other.places):
                    told = fewest(woven, place * other.places + b, log, goal)
                    self.assertEqual(told, fewest(turned, b * one.places + place, log, goal))
                    # If the other one is at an end, the first one may go on alone.
                    if b in other.ends and fewest(one, place, log, goal) is not None:
                        self.assertLessEqual(told, fewest(one, place, log, goal))


class RoadsAndFences(unittest.TestCase):

    def test_one_after_the_other(self):
        for _, one, other, _ in drawn_pairs(1606, 60):
            both = one + other
            for place in range(one.places):
                self.assertEqual(standing(both, place), standing(one, place))
                for log in first_logs(standing(one, place), 3):
                    self.assertEqual(length_of(road(both, place, log)), length_of(road(one, place, log)))
            starts = [one.places + start for start in other.starts]
            for log in first_logs(left(one), 3):
                shortest = min(length_of(road(one, end, log)) for end in one.ends if stands(one, end, log))
                for start in starts:
                    self.assertLessEqual(length_of(road(both, start, log)), shortest + 1)

    def test_either(self):
        for _, one, other, _ in drawn_pairs(1607, 60):
            either = one | other
            for program, shift in ((one, 0), (other, one.places)):
                for place in range(program.places):
                    for log in first_logs(standing(program, place), 3):
                        found = road(either, place + shift, log)
                        self.assertEqual(length_of(found), length_of(road(program, place, log)))
                        self.assertIs(road_holds(either, place + shift, log, found), True)
                    for log in first_logs(~standing(program, place), 2):
                        kept_out = fence(either, place + shift, log)
                        self.assertIs(fence_holds(either, place + shift, log, kept_out), True)
                        self.assertIsNotNone(fence(program, place, log))

    def test_again(self):
        for _, one, _, _ in drawn_pairs(1608, 60):
            again = one.again()
            for place in range(one.places):
                for log in first_logs(standing(one, place), 3):
                    self.assertLessEqual(length_of(road(again, place, log)), length_of(road(one, place, log)))
                for log in first_logs(~standing(again, place), 2):
                    self.assertIsNotNone(fence(one, place, log))
                    self.assertIs(fence_holds(again, place, log, fence(again, place, log)), True)

    def test_both_at_once(self):
        for _, one, other, _ in drawn_pairs(1609, 40):
            woven, turned = one & other, other & one
            for a in range(one.places):
                for b in range(other.places):
                    here, there = a * other.places + b, b * one.places + a
                    self.assertEqual(standing(woven, here), standing(turned, there))
                    for log in first_logs(standing(woven, here), 2):
                        self.assertEqual(length_of(road(woven, here, log)), length_of(road(turned, there, log)))


class ToldOtherwise(unittest.TestCase):

    def test_other_names_in_the_same_order(self):
        draw = random.Random(1610)
        for program in drawn_programs(1611, 50):
            names = {entry: "q" + entry[:7] for entry in program.book.entries}
            other = renamed(program, names)
            for place, log in drawn_states(draw, program, 6, 3):
                there = tuple(names[entry] for entry in log)
                self.assertEqual(fewest(other, place, there), fewest(program, place, log))
                self.assertEqual(stands(other, place, there), stands(program, place, log))
                if stands(program, place, log):
                    self.assertEqual(run_of(road(other, place, there)), run_of(road(program, place, log)))
                else:
                    self.assertEqual(len(fence(other, place, there)), len(fence(program, place, log)))

    def test_other_numbers(self):
        draw = random.Random(1612)
        for program in drawn_programs(1613, 50):
            numbers = draw.sample(range(program.places), program.places)
            other = renumbered(program, numbers)
            goal = drawn_goal(draw, program.book)
            for place, log in drawn_states(draw, program, 6, 3):
                self.assertEqual(fewest(other, numbers[place], log, goal), fewest(program, place, log, goal))
                if stands(program, place, log):
                    self.assertEqual(length_of(road(other, numbers[place], log)), length_of(road(program, place, log)))
            for place in range(program.places):
                self.assertEqual(endings(other, numbers[place], goal), endings(program, place, goal))

    def test_steps_told_twice_and_texts(self):
        draw = random.Random(1614)
        for program in drawn_programs(1615, 40):
            goal = drawn_goal(draw, program.book)
            steps = program.steps[::-1] + program.steps
            for other in (
                    Program(program.book, program.places, program.starts, program.ends, *steps),
                    Program.read(program.text)):
                for place, log in drawn_states(draw, program, 4, 3):
                    self.assertEqual(ending_of(other, place, log, goal), ending_of(program, place, log, goal))
                    self.assertEqual(fence(other, place, log), fence(program, place, log))
                    if stands(program, place, log):
                        self.assertEqual(road(other, place, log), road(program, place, log))


def ending_of(program, place, log, goal):
    """All that is told of how a state ends."""
    told = fewest(program, place, log, goal)
    run = None
    if told is not None:
        run = ending_run(program, place, log, goal)
        assert is_ended(program, *plain_end_of(program, place, log, run), goal)
    return told, run, can_end(program, place, log, goal), endings(program, place, goal).table


if __name__ == "__main__":
    unittest.main()
