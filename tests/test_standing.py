"""The logs that stand and those that are left (points 3, 7 and 11): standing, left, stands."""

import itertools
import random
import unittest

from logfolds.books import Book
from logfolds.logsets import LogSet
from logfolds.programs import Program
from logfolds.standing import left, standing, stands
from logfolds.ways import ways_of

from tests.helpers import BOOKS, FREE, LAMP, ONCE, PILE, SHORT, TURNS, UPDOWN, drawn_program
from tests.plain_sets import SIX, flaws_of, logs_up_to, ring, short_nets
from tests.plain_ways import chain_stands, plain_left, plain_standing
from tests.test_ways import drawn_programs, great_program

AB = Book(("a", "b"))


def renamed(program, names):
    """A program with other names for the entries."""
    book = Book(
        tuple(sorted(names[entry] for entry in program.book.entries)),
        *[(names[x], names[y], tuple(names[z] for z in result)) for x, y, result in program.book.rules])
    steps = [
        (place, tuple(sorted(names.get(look, "") for look in looks)), names.get(entry, ""), to)
        for place, looks, entry, to in program.steps
    ]
    return Program(book, program.places, program.starts, program.ends, *steps)


def renumbered(program, numbers, places=None):
    """A program with other numbers for the places, and perhaps more places."""
    def told(some):
        return tuple(sorted(numbers[place] for place in some))

    steps = [(numbers[place], looks, entry, numbers[to]) for place, looks, entry, to in program.steps]
    return Program(program.book, places or program.places, told(program.starts), told(program.ends), *steps)


class Known(unittest.TestCase):

    def test_updown(self):
        ups = ring(PILE, "a", 1)
        self.assertEqual(left(UPDOWN).table, ((True, (("a", 0),)),))
        self.assertEqual([standing(UPDOWN, 0), standing(UPDOWN, 1), left(UPDOWN)], [ups, ups, ups])
        self.assertIs(stands(UPDOWN, 1, ("a", "a")), True)
        self.assertIs(stands(UPDOWN, 1, ("b",)), False)

    def test_a_counter(self):
        # Three at a time up, and two at a time down, as long as there is one to take away.
        up = [(0, (), "a", 1), (1, (), "a", 2), (2, (), "a", 0)]
        program = Program(PILE, 5, (0,), (3,), *up, (0, (), "", 3), (3, ("a",), "b", 4), (4, ("a",), "b", 3))
        self.assertEqual(standing(program, 0), ring(PILE, "a", 3))
        self.assertEqual(standing(program, 1), ring(PILE, "a", 3, (1,)))
        self.assertEqual(left(program), ring(PILE, "a", 1))
        self.assertEqual(standing(program, 4), ring(PILE, "a", 1))
        only_even = Program(
            PILE, 4, (0,), (2,), (0, (), "a", 1), (1, (), "a", 0), (0, (), "", 2), (2, ("a",), "b", 3),
            (3, ("a",), "b", 2))
        self.assertEqual(left(only_even), ring(PILE, "a", 2))
        self.assertEqual(standing(only_even, 3), ring(PILE, "a", 2, (1,)))

    def test_a_test_for_nothing(self):
        # Up and down at will; on from there only with nothing left.
        program = Program(PILE, 2, (0,), (1,), (0, (), "a", 0), (0, ("a",), "b", 0), (0, ("",), "", 1))
        self.assertEqual(left(program), LogSet.of(PILE, ()))
        self.assertEqual(standing(program, 0), ring(PILE, "a", 1))

    def test_nests(self):
        # What was opened last is closed first, so only what is open is left.
        nests = Book(("a", "b", "c", "d"), ("a", "b", ()), ("c", "d", ()))
        program = Program(
            nests, 1, (0,), (0,), (0, (), "a", 0), (0, (), "c", 0), (0, ("a",), "b", 0), (0, ("c",), "d", 0))
        self.assertEqual(left(program), LogSet.machine(nests, (True, (("a", 0), ("c", 0)))))
        wrong = Program(nests, 1, (0,), (0,), *program.steps, (0, (), "d", 0))
        self.assertTrue(("a", "d") in left(wrong))
        self.assertTrue(("d", "a", "c") in left(wrong))
        self.assertFalse(("a", "b") in left(wrong))

    def test_calls(self):
        # Two calls of the same part: the entry on the log tells where to come back.
        calls = Book(("from", "other", "to"), ("from", "to", ()), ("other", "to", ()))
        steps = [
            (0, (), "from", 4), (4, (), "", 5), (5, ("from",), "to", 1), (5, ("other",), "to", 3),
            (1, (), "", 2), (2, (), "other", 4)]
        program = Program(calls, 6, (0,), (3,), *steps)
        nothing = LogSet.of(calls, ())
        self.assertEqual([standing(program, place) for place in (0, 1, 2, 3)], [nothing] * 4)
        inside = LogSet.of(calls, ("from",), ("other",))
        self.assertEqual([standing(program, 4), standing(program, 5)], [inside, inside])
        deep = Program(calls, 6, (0,), (3,), *steps, (4, (), "other", 4))
        rows = [(True, (("from", 1), ("other", 1))), (True, (("other", 1),))]
        self.assertEqual(standing(deep, 4), LogSet.machine(calls, *rows) - nothing)
        # Only the innermost call of several is left, and place 3 goes no further.
        self.assertEqual(standing(deep, 3), LogSet.machine(calls, *rows))

    def test_settings(self):
        program = Program(LAMP, 1, (0,), (0,), (0, (), "mark", 0), (0, (), "off", 0), (0, (), "on", 0))
        self.assertEqual(left(program), LogSet.every(LAMP))
        program = Program(LAMP, 2, (0,), (1,), (0, (), "off", 0), (0, ("off",), "on", 1), (1, ("on",), "mark", 0))
        self.assertEqual(standing(program, 0), LogSet.machine(
            LAMP, (True, (("off", 1), ("on", 2))), (True, ()), (False, (("mark", 0),))))
        self.assertTrue(("on", "mark", "on", "mark", "off") in standing(program, 0))
        self.assertEqual(first_of(left(program)), [("on",), ("on", "mark", "on"), ("on", "mark", "on", "mark", "on")])

    def test_a_ring_of_twelve_places_with_many_kinds(self):
        # Each log moves all starts on by its length; an entry b at place 0 goes no further.
        steps = [(k, (), entry, (k + 1) % 12) for k in range(12) for entry in "ab" if (k, entry) != (0, "b")]
        starts = (0, 4, 5, 7, 8, 10)
        program = Program(AB, 12, starts, (4,), *steps)
        draw = random.Random(951)
        logset = standing(program, 7)
        kinds = {}
        for number in range(3000):
            log = tuple(draw.choice("aaab") for _ in range(number % 40))
            wanted = [
                (start + len(log)) % 12 for start in starts
                if all(log[k] == "a" for k in range(-start % 12, len(log), 12))
            ]
            kinds[(log[-1:], tuple(sorted(wanted)))] = True
            if number < 300:
                self.assertEqual([place for place in range(12) if stands(program, place, log)], sorted(wanted))
            self.assertIs(log in logset, 7 in wanted)
        self.assertGreater(len(kinds), 700)

    def test_the_last_entry_but_eight(self):
        steps = [(0, (), "a", 0), (0, (), "b", 0), (0, (), "a", 1)]
        steps = [*steps, *[(k, (), entry, k + 1) for k in range(1, 9) for entry in "ab"]]
        program = Program(AB, 10, (0,), (9,), *steps)
        self.assertEqual(len(left(program).table), 512)
        for log in itertools.product("ab", repeat=10):
            self.assertIs(log in left(program) if log[3:] == ("b",) * 7 else log[1] == "a", log[1] == "a")
        self.assertEqual([left(program).count(length) for length in (8, 9, 10, 20)], [0, 2 ** 8, 2 ** 9, 2 ** 19])


def first_of(logset):
    """The first three logs of a set."""
    return list(itertools.islice(logset.logs(), 3))


class Edges(unittest.TestCase):

    def test_without_starts(self):
        for program in drawn_programs(952, 30):
            none = LogSet.none(program.book)
            program = Program.of(program.book, program.places, (), program.ends, program.steps)
            self.assertEqual(left(program), none)
            for place in range(program.places):
                self.assertEqual(standing(program, place), none)
                self.assertIs(stands(program, place, ()), False)

    def test_without_ends(self):
        for program in drawn_programs(953, 30):
            other = Program.of(program.book, program.places, program.starts, (), program.steps)
            self.assertEqual(left(other), LogSet.none(program.book))
            for place in range(program.places):
                self.assertEqual(standing(other, place), standing(program, place))

    def test_without_steps(self):
        for book in BOOKS:
            program = Program(book, 3, (0, 2), (1, 2))
            nothing, none = LogSet.of(book, ()), LogSet.none(book)
            self.assertEqual([standing(program, place) for place in range(3)], [nothing, none, nothing])
            self.assertEqual(left(program), nothing)
            self.assertEqual(left(Program(book, 3, (0, 2), (1,))), none)
            self.assertEqual([stands(program, place, ()) for place in range(3)], [True, False, True])
            self.assertIs(stands(program, 0, (book.entries[0],)), False)

    def test_places_that_no_step_leads_to(self):
        program = Program(PILE, 3, (0,), (2,), (0, (), "a", 1), (2, (), "b", 2))
        self.assertEqual(standing(program, 2), LogSet.none(PILE))
        self.assertEqual(standing(program, 1), LogSet.of(PILE, ("a",)))

    def test_logs_of_two_hundred_entries(self):
        self.assertIs(stands(UPDOWN, 1, ("a",) * 200), True)
        self.assertIs(stands(UPDOWN, 1, ("b",) + ("a",) * 199), False)
        self.assertIs(stands(UPDOWN, 1, ("a",) * 1000), True)
        steps = [(k, (), FREE.entries[k % 6], (k + 1) % 12) for k in range(12)]
        program = Program(FREE, 12, (0,), (0,), *steps)
        log = FREE.entries * 33
        self.assertEqual([place for place in range(12) if stands(program, place, log)], [198 % 12])
        self.assertEqual([place for place in range(12) if stands(program, place, (*log, "a", "b"))], [200 % 12])
        self.assertEqual([place for place in range(12) if stands(program, place, (*log, "b", "a"))], [])

    def test_by_name(self):
        self.assertEqual(standing(program=UPDOWN, place=1), left(program=UPDOWN))
        self.assertIs(stands(program=UPDOWN, place=1, log=("a",)), True)


class BesidePlainWays(unittest.TestCase):

    def test_chains(self):
        for program in drawn_programs(954, 150):
            ways = set(ways_of(program))
            nets = short_nets(program.book, 2 if len(program.book.entries) > 4 else 3)
            for place in range(program.places):
                logset = standing(program, place)
                self.assertEqual(flaws_of(program.book, logset.table) if logset else [], [])
                for log in nets:
                    wanted = chain_stands(program, ways, place, log)
                    self.assertIs(log in logset, wanted)
                    self.assertIs(stands(program, place, log), wanted)

    def test_plain_walks(self):
        for program in drawn_programs(955, 150, 3, 6):
            longest = 4 if len(program.book.entries) > 4 else 7
            found = plain_standing(program, longest)
            for place in range(program.places):
                logset = standing(program, place)
                self.assertEqual({log for log in found[place] if log not in logset}, set())
                self.assertEqual({log for log in found[place] if len(log) < 3}, set(logs_up_to(logset, 2)))

    def test_states_of_few_steps(self):
        for program in drawn_programs(956, 60):
            sets = [standing(program, place) for place in range(program.places)]
            for place, log in program.states(4):
                self.assertTrue(log in sets[place])
                self.assertTrue(place not in program.ends or log in left(program))

    def test_left_is_what_stands_at_the_ends(self):
        for program in drawn_programs(957, 60):
            wanted = LogSet.none(program.book)
            for place in program.ends:
                wanted = wanted | standing(program, place)
            self.assertEqual(left(program), wanted)
            self.assertEqual(left(program).book, program.book)

    def test_great_programs(self):
        for seed, book in ((11, SIX), (12, FREE), (13, SIX)):
            program = great_program(seed, book)
            ways = set(ways_of(program))
            sets = [standing(program, place) for place in range(12)]
            for place, log in itertools.islice(program.states(3), 300):
                self.assertTrue(log in sets[place])
            for place in range(12):
                for log in itertools.islice(sets[place].logs(), 10):
                    self.assertTrue(chain_stands(program, ways, place, log))
                    self.assertTrue(stands(program, place, log))
                for log in itertools.islice((~sets[place]).logs(), 10):
                    self.assertFalse(chain_stands(program, ways, place, log))
                    self.assertFalse(stands(program, place, log))


class ToldOtherwise(unittest.TestCase):

    def test_other_names(self):
        for program in drawn_programs(958, 40):
            names = {entry: "z" * (8 - k) for k, entry in enumerate(program.book.entries)}
            other = renamed(program, names)
            for place in range(program.places):
                here, there = standing(program, place), standing(other, place)
                self.assertEqual(
                    sorted(tuple(names[entry] for entry in log) for log in logs_up_to(here, 2)),
                    sorted(logs_up_to(there, 2)))
                self.assertEqual(len(here.table), len(there.table))

    def test_other_numbers(self):
        draw = random.Random(959)
        for program in drawn_programs(960, 40):
            numbers = draw.sample(range(program.places), program.places)
            other = renumbered(program, numbers)
            self.assertEqual(left(other), left(program))
            for place in range(program.places):
                self.assertEqual(standing(other, numbers[place]), standing(program, place))

    def test_a_place_more(self):
        for program in drawn_programs(961, 40):
            other = renumbered(program, [place + 1 for place in range(program.places)], program.places + 2)
            self.assertEqual(left(other), left(program))
            for place in range(program.places):
                self.assertEqual(standing(other, place + 1), standing(program, place))
            self.assertEqual(standing(other, 0), LogSet.none(program.book))

    def test_an_entry_more(self):
        for program in drawn_programs(962, 40):
            if len(program.book.entries) == 6:
                continue
            book = Book((*program.book.entries, "z"), *program.book.rules, ("z", "z", ()))
            other = Program.of(book, program.places, program.starts, program.ends, program.steps)
            for place in range(program.places):
                self.assertEqual(standing(other, place).table, standing(program, place).table)
            self.assertEqual(left(other).table, left(program).table)

    def test_steps_in_another_order(self):
        for program in drawn_programs(963, 20):
            steps = program.steps[::-1] + program.steps
            other = Program(program.book, program.places, program.starts, program.ends, *steps)
            self.assertEqual(left(other), left(program))

    def test_told_again_the_same(self):
        for program in drawn_programs(964, 20):
            before = program.text
            self.assertEqual(left(program).table, left(program).table)
            self.assertEqual(standing(program, 0), standing(program, 0))
            self.assertIs(stands(program, 0, ()), stands(program, 0, ()))
            self.assertEqual(program.text, before)


class PutTogether(unittest.TestCase):

    def drawn_pairs(self, seed, many):
        """Drawn pairs of programs with one book."""
        draw = random.Random(seed)
        for number in range(many):
            book = (PILE, LAMP, TURNS, ONCE, SHORT)[number % 5]
            yield drawn_program(draw, book, 3, 5), drawn_program(draw, book, 3, 5)

    def test_one_after_the_other(self):
        for one, other in self.drawn_pairs(965, 80):
            logset = left(one + other)
            begin = [(start, log) for start in other.starts for log in plain_left(one, 6)]
            found = plain_left(other, 6, begin)
            self.assertEqual({log for log in found if log not in logset}, set())
            self.assertEqual({log for log in found if len(log) < 3}, set(logs_up_to(logset, 2)))

    def test_either(self):
        for one, other in self.drawn_pairs(966, 80):
            self.assertEqual(left(one | other), left(one) | left(other))
            self.assertEqual(left(one | one), left(one))

    def test_again(self):
        for one, other in self.drawn_pairs(967, 60):
            for program in (one, other):
                logset = left(program.again())
                self.assertTrue(left(program).within(logset))
                found = plain_left(program, 6)
                while True:
                    more = plain_left(program, 6, [(start, log) for start in program.starts for log in found])
                    if more <= found:
                        break
                    found = found | more
                self.assertEqual({log for log in found if log not in logset}, set())
                self.assertEqual({log for log in found if len(log) < 3}, set(logs_up_to(logset, 2)))

    def test_both_at_once(self):
        for one, other in self.drawn_pairs(968, 60):
            woven = left(one & other)
            self.assertEqual(woven, left(other & one))
            for log in plain_left(one & other, 4):
                self.assertTrue(log in woven)
            # One program as a whole, and then the other one, is one way to weave them.
            if other.starts and one.starts:
                self.assertTrue(left(one + other).within(woven))

    def test_known(self):
        down = Program(PILE, 1, (0,), (0,), (0, (), "b", 0))
        up = Program(PILE, 1, (0,), (0,), (0, (), "a", 0))
        one_up = Program(PILE, 2, (0,), (1,), (0, (), "a", 1))
        self.assertEqual(left(up + down), LogSet.machine(PILE, (True, (("a", 1), ("b", 2))), (True, (("a", 1),)),
                                                         (True, (("b", 2),))))
        self.assertEqual(left(down + up), LogSet.every(PILE))
        self.assertEqual(left(up & down), LogSet.every(PILE))
        self.assertEqual(left(one_up), LogSet.of(PILE, ("a",)))
        self.assertEqual(left(one_up + one_up), LogSet.of(PILE, ("a", "a")))
        self.assertEqual(left(one_up.again()), ring(PILE, "a", 1) - LogSet.of(PILE, ()))
        self.assertEqual(left(one_up & one_up), LogSet.of(PILE, ("a", "a")))

    def test_many_steps(self):
        draw = random.Random(969)
        one = drawn_program(draw, SIX, 3, 20)
        other = drawn_program(draw, SIX, 4, 25)
        self.assertEqual(left(one & other), left(other & one))


if __name__ == "__main__":
    unittest.main()
