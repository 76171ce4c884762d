"""Roads (points 3 and 12): road, length_of, step_at, run_of."""

import random
import unittest

from logfolds.books import Book
from logfolds.errors import NoRoad, NothingThere, TooLong
from logfolds.programs import Program
from logfolds.roads import length_of, road, road_holds, run_of, step_at
from logfolds.standing import stands

from tests.helpers import BOOKS, FREE, LAMP, PILE, UPDOWN, drawn_program
from tests.plain_roads import calling, fewest_steps, forced_run, forms_of, hand_road, plain_end_of, plain_road_holds
from tests.plain_sets import SIX, short_nets
from tests.test_ways import drawn_programs, great_program


def comes_to(program, run):
    """The states to which a run comes from some start."""
    return [plain_end_of(program, start, (), run) for start in program.starts]


class Shortest(unittest.TestCase):

    def check_road(self, program, place, log, told=None):
        """Checks a road to a state in all ways but its length, which is returned."""
        found = road(program, place, log)
        lines, numbers = found
        self.assertEqual([type(found), type(lines), type(numbers)], [tuple] * 3)
        self.assertEqual(len({way for way, _ in lines}), len(lines))
        self.assertIs(road_holds(program, place, log, found), True)
        length = length_of(found)
        run = run_of(found, most=length)
        self.assertEqual(len(run), length)
        self.assertIn((place, log), comes_to(program, run))
        self.assertEqual(tuple(step_at(found, index) for index in range(length)), run)
        if told is not None:
            self.assertIs(plain_road_holds(program, place, log, found, told), True)
        return length

    def test_example(self):
        found = road(UPDOWN, 1, ("a", "a"))
        self.assertEqual([length_of(found), run_of(found)], [3, (1, 1, 0)])

    def test_beside_plain_walks(self):
        for program in drawn_programs(1101, 250):
            for (place, log), many in list(fewest_steps(program, 5).items())[:60]:
                self.assertEqual(self.check_road(program, place, log), many)

    def test_lines_by_the_words_of_the_document(self):
        for program in drawn_programs(1102, 60, 3, 7):
            told = forms_of(program)
            for place, log in list(fewest_steps(program, 4))[:15]:
                self.check_road(program, place, log, told)

    def test_a_road_exactly_where_a_log_stands(self):
        for program in drawn_programs(1103, 120):
            for log in short_nets(program.book, 2):
                for place in range(program.places):
                    if stands(program, place, log):
                        self.check_road(program, place, log)
                    else:
                        self.assertRaises(NoRoad, road, program, place, log)

    def test_great_programs(self):
        for seed, book in ((21, SIX), (22, FREE), (23, SIX)):
            program = great_program(seed, book)
            for (place, log), many in list(fewest_steps(program, 3).items())[::17]:
                self.assertEqual(self.check_road(program, place, log), many)

    def test_several_starts_of_which_one_is_nearer(self):
        program = Program(PILE, 4, (0, 2), (3,), (0, (), "", 1), (1, (), "", 3), (2, (), "", 3))
        self.assertEqual(run_of(road(program, 3, ())), (2,))
        self.assertEqual(run_of(road(program, 2, ())), ())
        self.assertEqual(length_of(road(program, 1, ())), 1)

    def test_what_is_offered_first_is_not_always_the_shortest(self):
        # Eight steps lead straight on; four steps, a mark, five steps and its counterpart lead there, too.
        straight = [(place, (), "", place + 1) for place in range(8)]
        around = [(0, (), "", 9), (9, (), "", 10), (10, (), "", 11), (11, (), "", 12), (12, (), "a", 13)]
        back = [(place, (), "", place + 1) for place in range(13, 18)]
        program = Program(PILE, 19, (0,), (8,), *straight, *around, *back, (18, (), "b", 8))
        self.assertEqual(length_of(road(program, 8, ())), 8)
        shorter = Program(PILE, 19, (0,), (8,), *straight[:-1], *around, *back, (18, (), "b", 8))
        self.assertEqual(length_of(road(shorter, 8, ())), 11)
        for place in range(19):
            for log in ((), ("a",)):
                if stands(program, place, log):
                    self.assertEqual(self.check_road(program, place, log), fewest_steps(program, 19)[(place, log)])

    def test_folds_over_several_entries(self):
        # b behind a is c, and c behind c is nothing: two entries b make up for two entries a.
        book = Book(("a", "b", "c"), ("a", "b", ("c",)), ("c", "b", ()))
        program = Program(book, 1, (0,), (0,), (0, (), "a", 0), (0, (), "b", 0))
        self.assertEqual([length_of(road(program, 0, log)) for log in (("c",), ("a", "c"), (), ("b",))], [2, 3, 0, 1])
        self.assertEqual(run_of(road(program, 0, ("b", "c"))), (1, 0, 1))
        short = Book(("a", "b", "x"), ("a", "b", ("x",)), ("a", "x", ()))
        program = Program(short, 4, (0,), (3,), (0, (), "a", 1), (1, (), "a", 2), (2, (), "b", 3), (0, (), "", 0))
        # a a b is a x, and that is nothing.
        self.assertEqual(run_of(road(program, 3, ())), (1, 2, 3))

    def test_without_starts_and_without_steps(self):
        program = Program(PILE, 2, (), (1,), *UPDOWN.steps)
        for place in (0, 1):
            for log in ((), ("a",), ("a",) * 200):
                self.assertRaises(NoRoad, road, program, place, log)
        program = Program(PILE, 3, (0, 2), (1,))
        self.assertEqual(road(program, 2, ()), (((("stays", "", 2, 2), ("none",)),), (0,)))
        for place, log in ((1, ()), (0, ("a",)), (2, ("b", "a"))):
            self.assertRaises(NoRoad, road, program, place, log)

    def test_long_logs(self):
        self.assertEqual(self.check_road(UPDOWN, 1, ("a",) * 200), 201)
        self.assertRaises(NoRoad, road, UPDOWN, 1, ("b",) + ("a",) * 199)
        self.assertEqual(length_of(road(UPDOWN, 0, ("a",) * 3000)), 3000)
        program = Program(FREE, 12, (0,), (0,), *[(k, (), FREE.entries[k % 6], (k + 1) % 12) for k in range(12)])
        self.assertEqual(self.check_road(program, 6, FREE.entries * 33), 198)
        self.assertRaises(NoRoad, road, program, 5, FREE.entries * 33)

    def test_by_name_and_again(self):
        found = road(program=UPDOWN, place=1, log=("a",))
        self.assertEqual(found, road(UPDOWN, 1, ("a",)))
        self.assertEqual(length_of(road=found), 2)
        self.assertEqual(step_at(road=found, index=0), 1)
        self.assertEqual(run_of(road=found, most=2), (1, 0))
        self.assertIs(road_holds(program=UPDOWN, place=1, log=("a",), thing=found), True)
        self.assertRaises(TypeError, run_of, found, 2)


class SingleSteps(unittest.TestCase):

    def test_indices(self):
        found = road(UPDOWN, 1, ("a", "a"))
        self.assertEqual([step_at(found, index) for index in (0, 1, 2)], [1, 1, 0])
        for index in (-1, -3, 3, 4, 10 ** 39, -(10 ** 39)):
            self.assertRaises(NothingThere, step_at, found, index)
        self.assertRaises(NothingThere, step_at, road(UPDOWN, 0, ()), 0)
        self.assertRaises(NothingThere, step_at, road(UPDOWN, 0, ()), -1)

    def test_most(self):
        found = road(UPDOWN, 0, ("a",) * 7)
        self.assertEqual(run_of(found, most=7), (1,) * 7)
        self.assertEqual(run_of(found, most=10 ** 39), (1,) * 7)
        for most in (6, 1, 0):
            with self.assertRaises(TooLong) as caught:
                run_of(found, most=most)
            self.assertEqual(caught.exception.length, 7)
        self.assertEqual(run_of(road(UPDOWN, 0, ()), most=0), ())

    def test_a_thousand_steps(self):
        self.assertEqual(run_of(road(UPDOWN, 0, ("a",) * 1000)), (1,) * 1000)
        with self.assertRaises(TooLong) as caught:
            run_of(road(UPDOWN, 0, ("a",) * 1001))
        self.assertEqual(caught.exception.length, 1001)

    def test_roads_written_by_hand(self):
        # The run of a road is what its lines tell, whether lines are needed or come twice.
        draw = random.Random(1104)
        for number in range(60):
            program = drawn_program(draw, BOOKS[number % len(BOOKS)])
            if not program.starts:
                continue
            place, log, run = program.starts[-1], (), []
            for _ in range(draw.randrange(40)):
                numbers = program.goes(place, log)
                if numbers:
                    run.append(draw.choice(numbers))
                    place, log = program.after(place, log, run[-1])
            found = hand_road(program, program.starts[-1], run)
            self.assertEqual(length_of(found), len(run))
            self.assertEqual(run_of(found), tuple(run))
            self.assertEqual([step_at(found, index) for index in range(len(run))], run)
            self.assertLessEqual(length_of(road(program, place, log)), len(run))


class LongRuns(unittest.TestCase):

    def test_procedures(self):
        draw = random.Random(1105)
        for number in range(25):
            counts = [draw.randrange(1, 4) for _ in range(draw.randrange(1, 8))]
            program, length = calling(counts)
            found = road(program, len(counts), ())
            run, state = forced_run(program, length + 1)
            self.assertEqual((len(run), state), (length, (len(counts), ())))
            self.assertEqual(length_of(found), length)
            self.assertEqual(run_of(found, most=length), run)
            self.assertEqual(len({way for way, _ in found[0]}), len(found[0]))
            self.assertIs(road_holds(program, len(counts), (), found), True)

    def test_twelve_places(self):
        for counts in ([3] * 11, [2, 3, 1, 3, 2, 3, 3, 1, 2, 3, 3]):
            program, length = calling(counts)
            found = road(program, 11, ())
            self.assertEqual(length_of(found), length)
            self.assertGreater(length, 10000)
            run, state = forced_run(program, length)
            self.assertEqual(state, (11, ()))
            half = length // 2
            for index in [*range(50), *range(half, half + 50), *range(length - 50, length)]:
                self.assertEqual(step_at(found, index), run[index])
            self.assertEqual(run_of(found, most=length), run)
            for most in (1000, length - 1):
                with self.assertRaises(TooLong) as caught:
                    run_of(found, most=most)
                self.assertEqual(caught.exception.length, length)

    def test_astronomically_long(self):
        program, length = calling([3] * 70)
        self.assertGreater(length, 2 ** 100)
        found = road(program, 70, ())
        self.assertEqual(length_of(found), length)
        self.assertIs(road_holds(program, 70, (), found), True)
        begin, _ = forced_run(program, 1000)
        self.assertEqual(tuple(step_at(found, index) for index in range(1000)), begin)
        # All procedures come back from their last call at the end, the highest one behind all others.
        back = [program.steps.index((place, ("abc"[0] if place % 2 == 0 else "d",), "c" if place % 2 == 0 else "f",
                                     place - 1 if place else 70)) for place in range(70)]
        self.assertEqual([step_at(found, length - 1 - place) for place in range(70)], back)
        for index in (length, -1, length * length):
            self.assertRaises(NothingThere, step_at, found, index)
        with self.assertRaises(TooLong) as caught:
            run_of(found)
        self.assertEqual(caught.exception.length, length)
        self.assertIs(road_holds(program, 70, ("a",), found), False)


class WhatIsPassedStays(unittest.TestCase):

    def test_unchanged(self):
        program = Program(LAMP, 2, (0,), (1,), (0, (), "off", 1), (1, (), "on", 0))
        before = program.text
        found = road(program, 0, ("on",))
        told = repr(found)
        run_of(found)
        length_of(found)
        step_at(found, 1)
        self.assertRaises(TooLong, run_of, found, most=1)
        self.assertRaises(NoRoad, road, program, 1, ("on",))
        self.assertEqual([program.text, repr(found)], [before, told])
        self.assertEqual(road(program, 0, ("on",)), found)


if __name__ == "__main__":
    unittest.main()
