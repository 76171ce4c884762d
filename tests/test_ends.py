"""How runs end (points 3 and 15): endings, can_end, fewest, ending_run."""

import random
import unittest

from logfolds.books import Book
from logfolds.ends import can_end, ending_run, endings, fewest
from logfolds.errors import NoRoad, OtherBook, TooLong
from logfolds.logsets import LogSet
from logfolds.programs import Program
from logfolds.standing import left, standing

from tests.helpers import CHAINED, FREE, LAMP, MARKS, ONCE, PILE, ROUND, SHORT, SWALLOWED, TURNS, UPDOWN, drawn_book
from tests.helpers import drawn_program, plain_after
from tests.plain_ends import drawn_goal, drawn_states, is_ended, plain_fewest
from tests.plain_roads import calling, forced_run, plain_end_of
from tests.plain_sets import SIX, first_logs, flaws_of, logs_up_to, ring, short_nets
from tests.test_ring import ring_program
from tests.test_ways import drawn_programs, great_program

NOTHING = LogSet.of(PILE, ())


class Known(unittest.TestCase):

    def test_examples(self):
        self.assertEqual(
            [endings(UPDOWN, 1, NOTHING) == left(UPDOWN), fewest(UPDOWN, 0, ("a", "a"), NOTHING)], [True, 3])

    def test_up_and_down(self):
        self.assertEqual(endings(UPDOWN, 0), LogSet.every(PILE))
        self.assertEqual(endings(UPDOWN, 1), LogSet.every(PILE))
        self.assertEqual(endings(UPDOWN, 0, LogSet.of(PILE, ("a",))), left(UPDOWN))
        self.assertEqual(endings(UPDOWN, 1, LogSet.of(PILE, ("a",))), left(UPDOWN) - NOTHING)
        self.assertEqual(endings(UPDOWN, 0, LogSet.of(PILE, ("b",))), LogSet.machine(PILE, (False, (("b", 1),)),
                                                                                    (True, (("a", 1),))))
        self.assertEqual(ending_run(UPDOWN, 0, ("a", "a"), NOTHING), (0, 2, 2))
        self.assertEqual(ending_run(UPDOWN, 0, (), LogSet.of(PILE, ("a", "a"))), (1, 1, 0))
        self.assertEqual([fewest(UPDOWN, 1, log, NOTHING) for log in ((), ("a",), ("b",), ("a", "a", "a"))],
                         [0, 1, None, 3])

    def test_a_log_that_can_be_turned_back(self):
        # The settings go round; only with off beneath the mark can the mark be alone on top of off.
        program = Program(LAMP, 1, (0,), (0,), (0, ("on",), "off", 0), (0, ("off",), "on", 0))
        goal = LogSet.of(LAMP, ("on", "mark"), ("mark", "on"))
        self.assertEqual(list(endings(program, 0, goal).logs()), [("mark", "off"), ("mark", "on"), ("on", "mark")])
        self.assertEqual(fewest(program, 0, ("mark", "off"), goal), 1)
        self.assertEqual(fewest(program, 0, ("mark", "on"), goal), 0)

    def test_a_fold_through_the_whole_log(self):
        # z takes the last entry with it as long as there is one, and then is alone.
        book = Book(("a", "z"), ("a", "z", ("z",)))
        program = Program(book, 2, (0,), (1,), (0, (), "z", 1))
        self.assertEqual(endings(program, 0, LogSet.of(book, ("z",))), ring(book, "a", 1))
        self.assertEqual(fewest(program, 0, ("a",) * 200, LogSet.of(book, ("z",))), 1)
        self.assertIs(can_end(program, 0, ("a",) * 200, LogSet.of(book, ("z",))), True)
        self.assertEqual(ending_run(program, 0, ("a",) * 150, LogSet.of(book, ("z",))), (0,))
        self.assertIs(can_end(program, 0, ("z",) + ("a",) * 199, LogSet.of(book, ("z",))), False)
        self.assertIs(can_end(program, 0, ("z",) + ("a",) * 199, LogSet.of(book, ("z", "z"))), True)

    def test_one_fold_brings_the_next_one_about(self):
        program = Program(CHAINED, 1, (0,), (0,), (0, (), "f", 0))
        for log, net in ((("a", "b", "c"), ()), (("b", "c"), ("e",)), (("c",), ("d",)), (("a", "a", "b", "c"), ("a",)),
                         (("b", "a", "b", "c"), ("b",)), (("a", "b"), ("a", "b", "f"))):
            goal = LogSet.of(CHAINED, net)
            self.assertEqual(fewest(program, 0, log, goal), 1)
            self.assertEqual(ending_run(program, 0, log, goal), (0,))
            self.assertTrue(log in endings(program, 0, goal))
        self.assertEqual(fewest(program, 0, ("a", "b", "c") * 2, LogSet.of(CHAINED, ())), 2)
        program = Program(ROUND, 2, (0,), (1,), (0, (), "b", 1))
        for many in range(1, 6):
            goal = LogSet.of(ROUND, ("b" if many % 2 == 0 else "c",))
            self.assertEqual(fewest(program, 0, ("a",) * many, goal), 1)
            self.assertIsNone(fewest(program, 0, ("a",) * (many + 1), goal))

    def test_an_entry_turned_several_times_before_it_is_gone(self):
        # Each mark counts down from three, one step at a time, before the one beneath it has its turn.
        down = [(0, ("c",), "c", 1), (1, ("b",), "c", 2), (2, ("a",), "c", 3)]
        again = [(3, ("f",), "f", 4), (4, ("e",), "f", 5), (5, ("d",), "f", 6), (6, ("c",), "", 0)]
        program = Program(MARKS, 7, (0,), (6,), *down, *again)
        goal = LogSet.of(MARKS, ())
        for log, many in ((("f", "c"), 6), (("f", "c") * 2, 13), (("f", "c") * 50, 349), (("c",), None), (("f",), None),
                          (("b", "f", "c"), None), (("f", "b"), None), (("d", "c"), None)):
            self.assertEqual(fewest(program, 0, log, goal), many)
            self.assertIs(can_end(program, 0, log, goal), many is not None)
            self.assertIs(log in endings(program, 0, goal), many is not None)
            if many is not None:
                self.assertEqual(len(ending_run(program, 0, log, goal)), many)
        self.assertEqual(endings(program, 3, goal).least(), ("f",))
        self.assertEqual([fewest(program, 0, ("b", "f", "c")), fewest(program, 0, ("e", "c"))], [6, None])

    def test_what_is_beneath_is_left_unchanged_by_a_fold_and_then_gone(self):
        program = Program(SWALLOWED, 4, (0,), (3,), (0, ("x",), "z", 2), (2, ("c",), "y", 3))
        goal = LogSet.of(SWALLOWED, ())
        for log, many in ((("c", "x"), 2), (("x",), None), (("b", "x"), None), (("c", "c", "x"), None)):
            self.assertEqual([fewest(program, 0, log, goal), can_end(program, 0, log, goal)], [many, many is not None])
            self.assertIs(log in endings(program, 0, goal), many is not None)
        self.assertEqual(list(endings(program, 0, goal).logs()), [("c", "x")])
        self.assertEqual(fewest(program, 0, ("c", "c", "x"), LogSet.of(SWALLOWED, ("c",))), 2)
        self.assertEqual(endings(program, 0, LogSet.of(SWALLOWED, ("x", "c"))), LogSet.of(SWALLOWED, ("x", "c", "c", "x")))

    def test_counters_taken_back_in_rounds(self):
        # Three are taken in each round, with a look before each; only from multiples of three one comes to an end.
        steps = [(0, ("a",), "b", 1), (1, ("a",), "b", 2), (2, ("a",), "b", 0), (0, ("",), "", 3)]
        program = Program(PILE, 4, (0,), (3,), *steps)
        self.assertEqual(endings(program, 0), ring(PILE, "a", 3))
        self.assertEqual(endings(program, 1), ring(PILE, "a", 3, (2,)))
        self.assertEqual(endings(program, 2), ring(PILE, "a", 3, (1,)))
        self.assertEqual([fewest(program, 0, ("a",) * many) for many in (0, 1, 3, 198, 199, 200)],
                         [1, None, 4, 199, None, None])
        self.assertEqual(len(ending_run(program, 0, ("a",) * 150)), 151)
        self.assertRaises(NoRoad, ending_run, program, 0, ("a",) * 200)


    def test_what_is_found_first_is_not_always_the_shortest(self):
        # z takes a away, behind nine steps; or y makes it b, and z takes that away at once.
        book = Book(("a", "b", "y", "z"), ("a", "y", ("b",)), ("a", "z", ()), ("b", "z", ()))
        slow = [(place, ("a",), "", place + 1) for place in range(9)] + [(9, ("a",), "z", 11)]
        soon = [(0, ("a",), "y", 10), (10, ("b",), "z", 11)]
        goal = LogSet.of(book, ())
        for steps, many in ((slow, 10), (slow + soon, 2)):
            program = Program(book, 12, (0,), (11,), *steps)
            self.assertEqual(fewest(program, 0, ("a",), goal), many)
            self.assertEqual(len(ending_run(program, 0, ("a",), goal)), many)
            self.assertEqual(fewest(program, 0, ("z", "a"), LogSet.of(book, ("z",))), many)
        # And what is found last is not told instead of what was found before.
        steps = [(0, ("a",), "", 1), (1, ("a",), "", 2), (2, ("a",), "z", 11), (0, ("a",), "y", 3),
                 *[(place, ("b",), "", place + 1) for place in range(3, 10)], (10, ("b",), "z", 11)]
        program = Program(book, 12, (0,), (11,), *steps)
        self.assertEqual(fewest(program, 0, ("a",), goal), 3)
        self.assertEqual(len(ending_run(program, 0, ("a",), goal)), 3)

    def test_a_way_that_begins_sooner_is_not_always_the_shortest(self):
        # With a still there, three steps lead to an end; once it is gone, which takes one step, ten do.
        ahead = [(0, (), "", 1), (1, ("a",), "", 2), (2, ("a",), "", 11)]
        down = [(0, ("a",), "b", 3), *[(place, ("",), "", place + 1) for place in range(3, 11)]]
        program = Program(PILE, 12, (0,), (11,), *ahead, *down)
        self.assertEqual([fewest(program, 0, ("a",)), fewest(program, 0, ("a",), NOTHING)], [3, 9])
        self.assertEqual(ending_run(program, 0, ("a",)), tuple(program.steps.index(step) for step in ahead))
        only = Program(PILE, 12, (0,), (11,), *ahead[:2], *down)
        self.assertEqual(fewest(only, 0, ("a",)), 9)


class BesidePlainWalks(unittest.TestCase):

    def programs(self, seed, many):
        """Drawn programs with goals."""
        draw = random.Random(seed)
        books = (PILE, LAMP, ONCE, SHORT, TURNS, FREE, ROUND, CHAINED, MARKS)
        for number in range(many):
            book = books[number % 9] if number % 2 else drawn_book(draw)
            yield draw, drawn_program(draw, book), drawn_goal(draw, book)

    def test_few_steps(self):
        for draw, program, goal in self.programs(1401, 200):
            for place, log in drawn_states(draw, program, 15):
                found = plain_fewest(program, place, log, goal, 3)
                told = fewest(program, place, log, goal)
                if found is None:
                    self.assertTrue(told is None or told > 3)
                else:
                    self.assertEqual(told, found)

    def test_the_states_behind_the_steps(self):
        # Told of all states so, this leaves no other numbers: none is too small by its run, none too great.
        for draw, program, goal in self.programs(1402, 250):
            for place, log in drawn_states(draw, program, 20):
                told = fewest(program, place, log, goal)
                behind = [fewest(program, *state, goal) for state in plain_after(program, place, log).values()]
                behind = [many for many in behind if many is not None]
                if is_ended(program, place, log, goal):
                    self.assertEqual(told, 0)
                else:
                    self.assertEqual(told, min(behind) + 1 if behind else None)

    def test_the_four_tell_the_same(self):
        for draw, program, goal in self.programs(1403, 200):
            sets = [endings(program, place, goal) for place in range(program.places)]
            for logset in sets:
                self.assertEqual(flaws_of(program.book, logset.table) if logset else [], [])
            for place, log in drawn_states(draw, program, 20):
                told = fewest(program, place, log, goal)
                self.assertIs(can_end(program, place, log, goal), told is not None)
                self.assertIs(log in sets[place], told is not None)
                if told is None:
                    self.assertRaises(NoRoad, ending_run, program, place, log, goal)
                    continue
                run = ending_run(program, place, log, goal)
                self.assertEqual(len(run), told)
                self.assertTrue(is_ended(program, *plain_end_of(program, place, log, run), goal))

    def test_without_a_goal(self):
        for draw, program, _ in self.programs(1404, 60):
            every = LogSet.every(program.book)
            for place in range(program.places):
                self.assertEqual(endings(program, place), endings(program, place, every))
                self.assertEqual(endings(program, place, LogSet.none(program.book)), LogSet.none(program.book))
            for place, log in drawn_states(draw, program, 5):
                self.assertEqual(fewest(program, place, log), fewest(program, place, log, every))
                self.assertIsNone(fewest(program, place, log, LogSet.none(program.book)))

    def test_more_in_the_goal_more_endings(self):
        for draw, program, goal in self.programs(1405, 60):
            if goal is None:
                continue
            more = drawn_goal(draw, program.book)
            if more is None:
                more = LogSet.every(program.book)
            for place in range(program.places):
                both = endings(program, place, goal | more)
                self.assertEqual(both, endings(program, place, goal) | endings(program, place, more))
                self.assertTrue(endings(program, place, goal & more).within(both))

    def test_an_end_is_an_ending(self):
        for draw, program, goal in self.programs(1406, 60):
            for place in program.ends:
                here = LogSet.every(program.book) if goal is None else goal
                self.assertTrue(here.within(endings(program, place, goal)))

    def test_without_ends_and_without_steps(self):
        for draw, program, goal in self.programs(1407, 40):
            none = LogSet.none(program.book)
            other = Program.of(program.book, program.places, program.starts, (), program.steps)
            still = Program(program.book, program.places, program.starts, program.ends)
            every = LogSet.every(program.book) if goal is None else goal
            for place in range(program.places):
                self.assertEqual(endings(other, place, goal), none)
                self.assertEqual(endings(still, place, goal), every if place in program.ends else none)
                self.assertIsNone(fewest(other, place, (), goal))

    def test_starts_do_not_matter(self):
        for draw, program, goal in self.programs(1408, 40):
            other = Program.of(program.book, program.places, (), program.ends, program.steps)
            for place in range(program.places):
                self.assertEqual(endings(other, place, goal), endings(program, place, goal))


class Great(unittest.TestCase):

    def test_great_programs(self):
        draw = random.Random(1409)
        for seed, book in ((41, SIX), (42, FREE), (43, SIX)):
            program = great_program(seed, book)
            goals = [None, LogSet.of(book, ()), standing(program, 3), drawn_goal(draw, book)]
            for goal in goals:
                for place in range(0, 12, 3):
                    logset = endings(program, place, goal)
                    for log in [*first_logs(logset, 3), *first_logs(~logset, 3)]:
                        self.assertIs(can_end(program, place, log, goal), log in logset)
                        told = fewest(program, place, log, goal)
                        self.assertIs(told is not None, log in logset)
                        if told is not None:
                            run = ending_run(program, place, log, goal)
                            self.assertEqual(len(run), told)
                            self.assertTrue(is_ended(program, *plain_end_of(program, place, log, run), goal))

    def test_long_logs(self):
        draw = random.Random(1410)
        for seed, book in ((44, SIX), (45, FREE)):
            program = great_program(seed, book)
            goal = LogSet.of(book, ())
            for many in (150, 200):
                log = book.net(tuple(draw.choice(book.entries) for _ in range(2 * many)))[:many]
                for wanted in (None, goal, ~goal):
                    told = fewest(program, 0, log, wanted)
                    self.assertIs(can_end(program, 0, log, wanted), told is not None)
                    if told is not None:
                        run = ending_run(program, 0, log, wanted, most=told)
                        self.assertEqual(len(run), told)
                        self.assertTrue(is_ended(program, *plain_end_of(program, 0, log, run), wanted))

    def test_a_ring(self):
        program = ring_program()
        draw = random.Random(1411)
        goal = standing(program, 3)
        for place in (0, 3, 11):
            # One entry can follow another without end, so some log of the goal can always be reached.
            self.assertEqual(endings(program, place), LogSet.every(program.book))
            logset = endings(program, place, goal)
            for _ in range(20):
                log = tuple(draw.choice("xy") for _ in range(draw.randrange(201)))
                told = fewest(program, place, log, goal)
                self.assertIs(log in logset, told is not None)
                self.assertIs(can_end(program, place, log, goal), told is not None)
                if told is not None:
                    run = ending_run(program, place, log, goal)
                    self.assertEqual(len(run), told)
                    self.assertTrue(is_ended(program, *program.follow(*run, place=place, log=log), goal))

    def test_long_runs(self):
        program, length = calling([3] * 70)
        goal = LogSet.of(program.book, ())
        self.assertEqual(fewest(program, 0, (), goal), length)
        self.assertIs(can_end(program, 0, (), goal), True)
        for most in (1000, 0, length - 1):
            with self.assertRaises(TooLong) as caught:
                ending_run(program, 0, (), goal, most=most)
            self.assertEqual(caught.exception.length, length)
        begin, (place, log) = forced_run(program, 500)
        self.assertEqual(fewest(program, place, log, goal), length - len(begin))
        self.assertIsNone(fewest(program, 0, ("d",), goal))

    def test_runs_told_whole(self):
        program, length = calling([3, 2, 3, 3, 2, 3, 3, 2])
        goal = LogSet.of(program.book, ())
        run, _ = forced_run(program, length)
        self.assertEqual(ending_run(program, 0, (), goal, most=length), run)
        self.assertGreater(length, 1000)
        self.assertRaises(TooLong, ending_run, program, 0, (), goal)

    def test_a_thousand_steps(self):
        program = Program(PILE, 1, (0,), (0,), (0, (), "b", 0))
        for many, goal in ((1000, LogSet.of(PILE, ("b",))), (999, NOTHING)):
            self.assertEqual(ending_run(program, 0, ("a",) * 999, goal), (0,) * many)
        with self.assertRaises(TooLong) as caught:
            ending_run(program, 0, ("a",) * 1001, NOTHING)
        self.assertEqual(caught.exception.length, 1001)
        self.assertEqual(ending_run(program, 0, ("a",) * 1001, NOTHING, most=1001), (0,) * 1001)
        self.assertEqual(ending_run(program, 0, (), None, most=0), ())
        with self.assertRaises(TooLong) as caught:
            ending_run(program, 0, ("a",), NOTHING, most=0)
        self.assertEqual(caught.exception.length, 1)


class Refused(unittest.TestCase):

    def test_the_book_of_the_goal_is_looked_at_first(self):
        others = [Book(("a", "b")), Book(("a", "b"), ("a", "b", ("a",))), Book(("a", "b", "c"), ("a", "b", ())), FREE]
        stuck = Program(PILE, 2, (0,), ())
        for book in others:
            for goal in (LogSet.every(book), LogSet.none(book)):
                for program in (UPDOWN, stuck):
                    self.assertRaises(OtherBook, endings, program, 0, goal)
                    self.assertRaises(OtherBook, can_end, program, 0, (), goal)
                    self.assertRaises(OtherBook, fewest, program, 0, (), goal)
                    self.assertRaises(OtherBook, ending_run, program, 0, (), goal, most=0)
        # An equal book is the same one.
        self.assertEqual(fewest(UPDOWN, 0, (), LogSet.every(Book(("a", "b"), ("a", "b", ())))), 1)

    def test_no_road_is_looked_at_before_the_length(self):
        self.assertRaises(NoRoad, ending_run, UPDOWN, 0, ("b",), NOTHING, most=0)
        self.assertRaises(NoRoad, ending_run, Program(PILE, 1, (0,), ()), 0, ())

    def test_by_name_and_again(self):
        goal = LogSet.of(PILE, ())
        self.assertEqual(endings(program=UPDOWN, place=0, goal=goal), endings(UPDOWN, 0, goal))
        self.assertEqual(endings(program=UPDOWN, place=0), endings(UPDOWN, 0))
        self.assertIs(can_end(program=UPDOWN, place=0, log=("b",), goal=goal), False)
        self.assertEqual(fewest(program=UPDOWN, place=0, log=("a",), goal=goal), 2)
        self.assertEqual(ending_run(program=UPDOWN, place=0, log=("a",), goal=goal, most=2), (0, 2))
        self.assertRaises(TypeError, ending_run, UPDOWN, 0, (), goal, 2)

    def test_what_is_passed_stays(self):
        before, table = UPDOWN.text, NOTHING.table
        for _ in range(2):
            self.assertEqual(logs_up_to(endings(UPDOWN, 0, NOTHING), 2), [(), ("a",), ("a", "a")])
            self.assertRaises(NoRoad, ending_run, UPDOWN, 0, ("b",), NOTHING)
            self.assertEqual(fewest(UPDOWN, 1, ("a",), NOTHING), 1)
        self.assertEqual([UPDOWN.text, NOTHING.table], [before, table])

    def test_many_goals_of_one_program(self):
        # What is kept of a goal never tells of another one.
        nets = short_nets(PILE, 4)
        for _ in range(2):
            for net in nets:
                self.assertIs(can_end(UPDOWN, 1, ("a", "a"), LogSet.of(PILE, net)), net in ((), ("a",), ("a", "a")))
                self.assertEqual(fewest(UPDOWN, 0, (), LogSet.of(PILE, net)),
                                 len(net) + 1 if "b" not in net else None)


class Parted(unittest.TestCase):

    def test_what_stands_ends_or_is_trapped(self):
        for program in drawn_programs(1412, 80):
            for place in range(program.places):
                here, ends = standing(program, place), endings(program, place)
                self.assertEqual((here & ends) | (here - ends), here)
                for log in first_logs(here & ends, 3):
                    self.assertIs(can_end(program, place, log), True)
                for log in first_logs(here - ends, 3):
                    self.assertIs(can_end(program, place, log), False)


if __name__ == "__main__":
    unittest.main()
