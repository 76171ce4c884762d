"""A program on a ring with nearly a thousand kinds of logs (points 2 and 9), and that nothing is worked out twice."""

import random
import unittest
from unittest import mock

from logfolds.books import Book
from logfolds.logsets import LogSet
from logfolds.programs import Program
from logfolds.standing import growth_of, left, most, standing, stands
from logfolds.ways import ways_of

XY = Book(("x", "y"))


def ring_step(place, entry):
    """Where an entry leads from a place: x moves all places on, y exchanges the first two."""
    return (place + 1) % 12 if entry == "x" else [1, 0, place][min(place, 2)]


def ring_program():
    """A program without folds and looks, whose logs move four starts about in all ways."""
    steps = [(place, (), entry, ring_step(place, entry)) for place in range(12) for entry in "xy"]
    return Program(XY, 12, (0, 2, 5, 7), (3,), *steps)


def moved(places, entry):
    """Where several places lead."""
    return frozenset(ring_step(place, entry) for place in places)


def sets_of_places():
    """The sets of places to which logs lead, in the order in which they are met."""
    met = {frozenset((0, 2, 5, 7)): True}
    waiting = list(met)
    for places in waiting:
        for entry in "xy":
            if moved(places, entry) not in met:
                met[moved(places, entry)] = True
                waiting.append(moved(places, entry))
    return waiting


def plain_ring_table(wanted):
    """The least table of the logs that lead to sets of places that are wanted.

    From each set of places one comes to each other one, so one that is wanted is never far.
    """
    met = sets_of_places()
    classes = {places: int(wanted(places)) for places in met}
    while True:
        parts = {places: (classes[places], *[classes[moved(places, entry)] for entry in "xy"]) for places in met}
        numbers = {part: number for number, part in enumerate(dict.fromkeys(parts.values()))}
        if len(numbers) == len(set(classes.values())):
            break
        classes = {places: numbers[parts[places]] for places in met}
    firsts = {}
    for places in met:
        firsts.setdefault(classes[places], places)
    order = {number: at for at, number in enumerate(firsts)}
    return tuple(
        (wanted(places), tuple((entry, order[classes[moved(places, entry)]]) for entry in "xy"))
        for places in firsts.values())


class Ring(unittest.TestCase):

    def setUp(self):
        self.program = ring_program()

    def test_each_place(self):
        self.assertEqual(len(sets_of_places()), 495)
        for place in range(12):
            logset = standing(self.program, place)
            self.assertEqual(logset.table, plain_ring_table(lambda places: place in places))
            self.assertEqual(standing(self.program, place), logset)
        self.assertEqual(standing(self.program, 3), left(self.program))
        self.assertEqual(len(left(self.program).table), 495)
        self.assertIsNone(most(self.program))

    def test_long_logs(self):
        draw = random.Random(1011)
        sets = [standing(self.program, place) for place in range(12)]
        for _ in range(40):
            log = tuple(draw.choice("xxy") for _ in range(200))
            places = frozenset((0, 2, 5, 7))
            for entry in log:
                places = moved(places, entry)
            for place in range(12):
                self.assertIs(stands(self.program, place, log), place in places)
                self.assertIs(log in sets[place], place in places)

    def test_signs(self):
        sets = [standing(self.program, place) for place in range(12)]
        for one, other in ((3, 4), (0, 11), (5, 5)):
            a, b = sets[one], sets[other]
            self.assertEqual((a & b).table, plain_ring_table(lambda places: {one, other} <= places))
            self.assertEqual((a | b).table, plain_ring_table(lambda places: bool(places & {one, other})))
            if one != other:
                self.assertEqual((a - b).table, plain_ring_table(lambda places: one in places and other not in places))
                self.assertFalse(a.within(b))
                self.assertEqual((a - b | b - a).least(), a.parting(b))
            else:
                self.assertEqual([(a - b).table, a.within(b), a.parting(b), a == b], [(), True, None, True])
            self.assertEqual((~a).table, plain_ring_table(lambda places: one not in places))
            self.assertEqual(~a | a, LogSet.every(XY))
            self.assertTrue((a & b).within(a))


class Counts(unittest.TestCase):

    def plain_count(self, place, longest):
        """How many logs of each length up to this one stand at a place, by the sets of places."""
        ways, found = {frozenset((0, 2, 5, 7)): 1}, []
        for _ in range(longest + 1):
            found.append(sum(many for places, many in ways.items() if place in places))
            onward = {}
            for places, many in ways.items():
                for entry in "xy":
                    other = moved(places, entry)
                    onward[other] = onward.get(other, 0) + many
            ways = onward
        return found

    def test_lengths_in_any_order(self):
        program = ring_program()
        for place in (3, 8):
            wanted = self.plain_count(place, 200)
            logset = standing(program, place)
            self.assertEqual([logset.count(length) for length in range(201)], wanted)
            other = standing(program, place)
            lengths = [*range(200, 0, -37), 7, 200, 0, 150, 8, 199, 7]
            self.assertEqual([other.count(length) for length in lengths], [wanted[length] for length in lengths])

    def test_great_lengths_after_small_ones(self):
        rows = LogSet.machine(XY, (False, (("x", 1), ("y", 0))), (True, (("x", 0),)))
        for lengths in ((0, 1, 2, 3, 400, 401, 5), (3000, 2, 2999, 3001)):
            fresh = [LogSet.machine(XY, *rows.table).count(length) for length in lengths]
            logset = LogSet.machine(XY, *rows.table)
            self.assertEqual([logset.count(length) for length in lengths], fresh)


class NotTwice(unittest.TestCase):

    def test_ways_and_kinds_are_found_once(self):
        program = ring_program()
        with mock.patch("logfolds.ways.Closing", side_effect=AssertionError):
            with self.assertRaises(AssertionError):
                standing(program, 3)
        before = standing(program, 3)
        with mock.patch("logfolds.ways.Closing", side_effect=AssertionError):
            with mock.patch("logfolds.chains.Chains.kinds", side_effect=AssertionError):
                self.assertEqual(standing(program, 3), before)
                for place in range(12):
                    standing(program, place)
                    stands(program, place, ("x",))
                self.assertEqual(left(program), before)
                most(program)
                growth_of(program)
                ways_of(program)

    def test_each_table_is_made_once(self):
        program = ring_program()
        tables = [standing(program, place).table for place in range(12)]
        with mock.patch("logfolds.standing.table_of", side_effect=AssertionError):
            self.assertEqual([standing(program, place).table for place in range(12)], tables)

    def test_equal_programs_do_not_share(self):
        one, other = ring_program(), ring_program()
        standing(one, 3)
        self.assertEqual(one, other)
        self.assertEqual(standing(other, 3), standing(one, 3))

    def test_a_program_made_of_one_that_was_asked(self):
        program = Program(XY, 2, (0,), (1,), (0, (), "x", 1))
        self.assertEqual(left(program), LogSet.of(XY, ("x",)))
        self.assertEqual(left(program + program), LogSet.of(XY, ("x", "x")))
        self.assertEqual(left(program | program), LogSet.of(XY, ("x",)))
        self.assertEqual(left(program.again()).longest(), None)
        self.assertEqual(left(program), LogSet.of(XY, ("x",)))


if __name__ == "__main__":
    unittest.main()
