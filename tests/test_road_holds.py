"""The checker of roads (points 3 and 12): road_holds."""

import random
import unittest

from logfolds.books import Book
from logfolds.programs import Program
from logfolds.roads import length_of, road, road_holds
from logfolds.standing import standing, stands

from tests.changed import all_changed
from tests.helpers import BOOKS, LAMP, PILE, UPDOWN, drawn_program, odd_values
from tests.plain_roads import calling, forced_run, forms_of, hand_road, plain_road_holds
from tests.plain_sets import first_logs, short_nets
from tests.test_ways import drawn_programs


def drawn_run(draw, program, start, many):
    """A run of at most so many steps, and the state to which it comes."""
    place, log, run = start, (), []
    for _ in range(many):
        numbers = program.goes(place, log)
        if not numbers:
            break
        run.append(draw.choice(numbers))
        place, log = program.after(place, log, run[-1])
    return run, place, log


def drawn_roads(seed, many, longest):
    """Roads written by hand for drawn runs, with their programs and states."""
    draw = random.Random(seed)
    while many:
        program = drawn_program(draw, BOOKS[many % len(BOOKS)], 3, 8)
        if program.starts:
            start = draw.choice(program.starts)
            run, place, log = drawn_run(draw, program, start, draw.randrange(longest + 1))
            yield program, place, log, hand_road(program, start, run), run
            many = many - 1


def shifted(lines, by):
    """The same lines behind so many other ones."""
    found = []
    for way, why in lines:
        moved = [part + by if k < (2 if why[0] == "step" else 3) else part for k, part in enumerate(why) if k]
        found.append((way, (why[0], *moved)))
    return tuple(found)


class ByHand(unittest.TestCase):

    def test_any_run(self):
        for program, place, log, found, run in drawn_roads(1201, 200, 60):
            self.assertIs(road_holds(program, place, log, found), True)
            self.assertEqual(length_of(found), len(run))
            if len(run) < 15:
                self.assertIs(plain_road_holds(program, place, log, found), True)

    def test_lines_that_nobody_needs(self):
        for program, place, log, (lines, numbers), run in drawn_roads(1202, 60, 10):
            more = (*lines, *[(("stays", "", p, p), ("none",)) for p in range(program.places)])
            self.assertIs(road_holds(program, place, log, (more, numbers)), True)
            # The same lines twice, and the numbers of the second ones.
            twice = (*lines, *shifted(lines, len(lines)))
            second = tuple(number + len(lines) for number in numbers)
            for told in (numbers, second, (*numbers[:1], *second[1:])):
                self.assertIs(road_holds(program, place, log, (twice, told)), True)
                self.assertEqual(length_of((twice, told)), len(run))

    def test_a_run_done_a_hundred_times(self):
        # Up and down again, a hundred times over, with the same way in each line.
        steps = [(0, (), "a", 1), (1, ("a",), "b", 0)]
        program = Program(PILE, 2, (0,), (0,), *steps)
        lines = [
            (("stays", "", 0, 0), ("none",)), (("stays", "a", 1, 1), ("none",)), (("turns", "a", 1, (), 0), ("step", 1, 1))]
        for _ in range(100):
            lines.append((("above", "", 0, "a", 1), ("step", 0 if len(lines) == 3 else len(lines) - 1, 0)))
            lines.append((("stays", "", 0, 0), ("ways", len(lines) - 1, 2)))
        found = (tuple(lines), (len(lines) - 1,))
        self.assertIs(road_holds(program, 0, (), found), True)
        self.assertIs(plain_road_holds(program, 0, (), found), True)
        self.assertEqual([length_of(found), length_of(road(program, 0, ()))], [200, 0])
        self.assertIs(road_holds(program, 1, ("a",), (found[0], (len(lines) - 2,))), True)

    def test_doubled_a_hundred_times(self):
        # Place 0 can write a and take it away; each line does what the one before does twice.
        program = Program(LAMP, 1, (0,), (0,), (0, (), "on", 0))
        stay = ("stays", "on", 0, 0)
        above = ("above", "", 0, "on", 0)
        lines = [(("stays", "", 0, 0), ("none",)), (stay, ("none",)), (stay, ("step", 1, 0)), (above, ("step", 0, 0))]
        for _ in range(100):
            lines.append((above, ("ways", len(lines) - 1, 2)))
        self.assertIs(road_holds(program, 0, ("on",), (tuple(lines), (103,))), True)
        self.assertEqual(length_of((tuple(lines), (103,))), 101)


class OneThingPutOtherwise(unittest.TestCase):

    def check_changed(self, program, place, log, found, seed, many=40):
        """Checks that what is changed holds only if it is a road by the words of the document."""
        told = forms_of(program)
        kinds = [0, 0]
        for other in all_changed(seed, found, many):
            wanted = plain_road_holds(program, place, log, other, told)
            self.assertIs(road_holds(program, place, log, other), wanted, other)
            kinds[wanted] += 1
        return kinds

    def test_drawn_roads(self):
        kinds = [0, 0]
        for seed, (program, place, log, found, _) in enumerate(drawn_roads(1203, 120, 12)):
            refused, held = self.check_changed(program, place, log, found, seed)
            kinds = [kinds[0] + refused, kinds[1] + held]
        # Some of what is changed is still a road: unneeded lines, other starts, other ways to the same.
        self.assertGreater(kinds[0], 10 * kinds[1])
        self.assertGreater(kinds[1], 10)

    def test_shortest_roads(self):
        for seed, program in enumerate(drawn_programs(1204, 40, 3, 6)):
            for place in range(program.places):
                for log in first_logs(standing(program, place), 3):
                    self.check_changed(program, place, log, road(program, place, log), seed, 15)

    def test_other_states(self):
        for program, place, log, found, _ in drawn_roads(1205, 40, 12):
            for other in range(program.places):
                for net in (*short_nets(program.book, 2), log + log, log[:-1]):
                    wanted = (other, net) == (place, log)
                    if program.book.is_net(net):
                        self.assertIs(road_holds(program, other, net, found), wanted)

    def test_each_why(self):
        lines = (
            (("stays", "", 0, 0), ("none",)), (("above", "", 0, "a", 0), ("step", 0, 1)),
            (("stays", "a", 0, 0), ("none",)), (("stays", "a", 0, 1), ("step", 2, 0)),
            (("above", "", 0, "a", 1), ("ways", 1, 3)), (("turns", "a", 0, (), 1), ("step", 3, 2)),
            (("stays", "", 0, 1), ("ways", 1, 5)), (("stays", "", 1, 1), ("none",)))
        self.assertIs(road_holds(UPDOWN, 1, ("a",), (lines, (4,))), True)
        self.assertIs(road_holds(UPDOWN, 1, (), (lines, (6,))), True)
        wrong = [
            (3, ("step", 3, 0)), (3, ("step", 4, 0)), (3, ("step", 2, 1)), (3, ("step", 2, 2)), (3, ("step", 2, 3)),
            (3, ("step", 2, -1)), (3, ("step", 2, False)), (3, ("step", True, 0)), (3, ["step", 2, 0]),
            (3, ("step", 2)), (3, ("step", 2, 0, 0)), (3, ("none",)), (3, ("none", 0)), (3, "none"), (3, ()),
            (3, ("ways", 2, 0)), (3, ("step", 1, 0)), (3, ("step", 0, 0)), (3, ("step", -6, 0)),
            (4, ("ways", 1, 4)), (4, ("ways", 3, 1)), (4, ("ways", 1, 1)), (4, ("ways", 1, 0)), (4, ("ways", 1, 5)),
            (4, ("ways", 1, 2)), (4, ("step", 0, 1)), (4, ("ways", True, 3)), (4, ("ways", 1, 3, 3)), (4, None),
            (5, ("step", 2, 2)), (5, ("step", 3, 1)), (6, ("ways", 4, 5)), (6, ("ways", 1, 3)), (6, ("step", 0, 0, 1)),
            (7, ("step", 7, 0)), (0, ("step", 0, 0)), (0, ("none", "none")), (0, ("None",))]
        for at, why in wrong:
            changed = (*lines[:at], (lines[at][0], why), *lines[at + 1:])
            self.assertIs(road_holds(UPDOWN, 1, (), (changed, (6,))), False, why)
        self.assertIs(road_holds(UPDOWN, 1, (), ((*lines[:6], (lines[6][0], ("step", 0, 0)), lines[7]), (6,))), True)
        for numbers in ((), (6, 6), (7,), (0,), (8,), (-2,), (True,), ("6",), [6], 6, None, ((6,),)):
            self.assertIs(road_holds(UPDOWN, 1, (), (lines, numbers)), False, numbers)
        for thing in ((lines,), (lines, (6,), ()), [lines, (6,)], (list(lines), (6,)), ((6,), lines), (), lines):
            self.assertIs(road_holds(UPDOWN, 1, (), thing), False)

    def test_chains(self):
        lines = (
            (("stays", "", 0, 0), ("none",)), (("above", "", 0, "a", 0), ("step", 0, 1)),
            (("stays", "a", 0, 0), ("none",)), (("above", "a", 0, "a", 0), ("step", 2, 1)),
            (("stays", "a", 0, 1), ("step", 2, 0)), (("above", "a", 0, "a", 1), ("ways", 3, 4)))
        self.assertIs(road_holds(UPDOWN, 0, ("a", "a", "a"), (lines, (1, 3, 3))), True)
        self.assertIs(road_holds(UPDOWN, 1, ("a", "a", "a"), (lines, (1, 3, 5))), True)
        for place, log, numbers in (
                (1, ("a", "a", "a"), (1, 3, 3)), (0, ("a", "a"), (1, 3, 3)), (0, ("a",) * 4, (1, 3, 3)),
                (0, ("a", "a"), (3, 3)), (0, ("a",), (3,)), (0, ("a",), (2,)), (0, (), (2,)), (0, (), (1,)),
                (0, (), ()), (0, ("a",), ()), (1, ("a", "a", "a"), (1, 5, 5)), (0, ("b",), (1,)), (0, ("a",), (0,))):
            self.assertIs(road_holds(UPDOWN, place, log, (lines, numbers)), False)
        # A chain that does not begin at a start: the same lines for a program that begins elsewhere.
        other = Program(PILE, 2, (1,), (1,), *UPDOWN.steps)
        self.assertIs(road_holds(other, 0, ("a",), (lines, (1,))), False)
        self.assertIs(road_holds(other, 0, (), (lines, (0,))), False)
        nowhere = Program(PILE, 2, (), (1,), *UPDOWN.steps)
        self.assertIs(road_holds(nowhere, 0, (), (lines, (0,))), False)

    def test_one_above_another(self):
        # With b above a, b is not just one entry above the ground.
        book = Book(("a", "b"))
        program = Program(book, 1, (0,), (0,), (0, (), "a", 0), (0, (), "b", 0))
        lines = (
            (("stays", "", 0, 0), ("none",)), (("stays", "a", 0, 0), ("none",)), (("above", "", 0, "a", 0), ("step", 0, 0)),
            (("above", "a", 0, "b", 0), ("step", 1, 1)), (("above", "", 0, "b", 0), ("step", 0, 1)))
        self.assertIs(road_holds(program, 0, ("b",), (lines, (4,))), True)
        self.assertIs(road_holds(program, 0, ("a", "b"), (lines, (2, 3))), True)
        wrong = (*lines[:4], (("above", "", 0, "b", 0), ("ways", 2, 3)))
        for log, numbers in ((("b",), (4,)), (("a", "b"), (2, 3))):
            self.assertIs(road_holds(program, 0, log, (wrong, numbers)), False)

    def test_any_values(self):
        for thing in odd_values():
            for place, log in ((0, ()), (1, ("a",)), (1, ("a",) * 200)):
                self.assertIs(road_holds(UPDOWN, place, log, thing), False)
                for other in ((thing, thing), (thing, (0,)), ((thing,), (0,)), (((thing, thing),), (0,)),
                              (((("stays", "", 0, 0), thing),), (0,)), (((thing, ("none",)),), (0,)),
                              (((("stays", "", 0, 0), ("none",)),), thing)):
                    if other != (((("stays", "", 0, 0), ("none",)),), (0,)):
                        self.assertIs(road_holds(UPDOWN, place, log, other), False)
        self.assertIs(road_holds(UPDOWN, 0, (), (((("stays", "", 0, 0), ("none",)),), (0,))), True)

    def test_long_roads(self):
        program, length = calling([3, 2, 3, 3, 1, 2, 3])
        run, _ = forced_run(program, 2000)
        self.assertEqual(len(run), min(length, 2000))
        found = hand_road(program, 0, run[:1500])
        place, log = program.follow(*run[:1500])
        self.assertIs(road_holds(program, place, log, found), True)
        self.assertIs(road_holds(program, 0, (), found), (place, log) == (0, ()))
        lines, numbers = found
        self.assertIs(road_holds(program, place, log, (lines[:-1], numbers)), False)
        self.assertIs(road_holds(program, place, log, (lines[:700] + lines[701:], numbers)), False)


class NeverForWhatDoesNotStand(unittest.TestCase):

    def test_refused(self):
        # Whatever is taken from roads to other states, it is no road to what does not stand.
        for seed, program in enumerate(drawn_programs(1206, 60, 3, 6)):
            roads = [
                road(program, place, log) for place in range(program.places)
                for log in first_logs(standing(program, place), 2)]
            for place in range(program.places):
                for log in short_nets(program.book, 2):
                    if not stands(program, place, log):
                        for found in roads:
                            self.assertIs(road_holds(program, place, log, found), False)
                            for other in all_changed(seed, found, 3):
                                self.assertIs(road_holds(program, place, log, other), False)


if __name__ == "__main__":
    unittest.main()
