"""Programs, their steps and runs ([6], [7] and the programs of the interface)."""

import itertools
import random
import unittest

from logfolds import programs
from logfolds.books import Book
from logfolds.errors import BadProgram, NoStep, NothingThere
from logfolds.programs import Program
from tests.helpers import FREE, LAMP, ONCE, PILE, SHORT, TURNS, UPDOWN
from tests.helpers import drawn_books, drawn_program, drawn_step, nested, odd_values, plain_after, plain_states

NO_PLACES = (0, -1, 1001, 10 ** 39, -(10 ** 39), True, False, None, "2", (), (2,), [2], {}, {2: 2}, nested(30))


def part_of(*arguments):
    """The part of the BadProgram that `Program` raises for these arguments, in a list, or None."""
    try:
        Program(*arguments)
    except BadProgram as error:
        return [error.part]
    return None


class Interface(unittest.TestCase):

    def test_defined_in_its_file(self):
        self.assertEqual(programs.Program.__module__, "logfolds.programs")
        for name in ("steps", "text"):
            self.assertIsInstance(vars(Program)[name], property)
        for name in ("of", "read"):
            self.assertIsInstance(vars(Program)[name], classmethod)
        for name in ("__eq__", "__add__", "__or__", "__and__", "goes", "after", "follow", "states", "again"):
            self.assertIn(name, vars(Program))
        for name in ("book", "places", "starts", "ends"):
            self.assertIn(name, vars(UPDOWN))

    def test_examples(self):
        self.assertEqual(UPDOWN.steps, ((0, (), "", 1), (0, (), "a", 0), (1, ("a",), "b", 1)))
        self.assertEqual(UPDOWN.goes(0, ("a",)), (0, 1))
        self.assertEqual(UPDOWN.follow(1, 1, 0, 2), (1, ("a",)))
        self.assertEqual(UPDOWN.after(1, ("a", "a"), 2), (1, ("a",)))

    def test_by_name(self):
        named = Program(book=PILE, places=2, starts=(0,), ends=(1,))
        self.assertEqual(named, Program(PILE, 2, (0,), (1,)))
        told = Program.of(book=PILE, places=2, starts=(0,), ends=(1,), steps=UPDOWN.steps)
        self.assertEqual(told, UPDOWN)
        self.assertEqual(Program.read(text=UPDOWN.text), UPDOWN)
        self.assertEqual(UPDOWN.goes(place=0, log=()), (0, 1))
        self.assertEqual(UPDOWN.after(place=0, log=(), number=1), (0, ("a",)))
        self.assertEqual(UPDOWN.follow(2, log=("a",), place=1), (1, ()))
        self.assertEqual(list(UPDOWN.states(many=0)), [(0, ())])


class Construction(unittest.TestCase):

    def test_attributes_and_steps(self):
        steps = [(1, ("", "a"), "b", 1), (0, (), "a", 0), (0, (), "", 1), (0, (), "a", 0), (1, (), "b", 1)]
        for told in itertools.permutations(steps):
            program = Program(PILE, 2, (0, 1), (), *told)
            self.assertEqual((program.book, program.places, program.starts, program.ends), (PILE, 2, (0, 1), ()))
            self.assertEqual(
                program.steps, ((0, (), "", 1), (0, (), "a", 0), (1, (), "b", 1), (1, ("", "a"), "b", 1)))
            self.assertEqual(program, Program.of(PILE, 2, (0, 1), (), tuple(steps)))

    def test_places(self):
        for places in NO_PLACES:
            with self.subTest(str(places)[:40]):
                self.assertEqual(part_of(PILE, places, (0,), (0,)), ["places"])
                self.assertEqual(part_of(PILE, places, "x", None, 7), ["places"])
        for places in (1, 2, 999, 1000):
            self.assertEqual(Program(PILE, places, (places - 1,), (0,)).places, places)
        for thing in odd_values():
            if isinstance(thing, bool) or thing not in (1, 2, 7, 1000):
                self.assertEqual(part_of(PILE, thing, (), ()), ["places"])

    def test_starts_and_ends(self):
        bad = [
            (1, 0), (0, 0), (2,), (0, 2), (-1,), (-1, 0), (True,), (False,), (0, True), (None,), ("0",), ((0,),), [0],
            [], {}, {0: 0}, "", "0", 0, None, True, (0, [1]), (0, {}), (10 ** 39,), nested(30), (0, "a"),
        ]
        for thing in bad:
            with self.subTest(str(thing)[:40]):
                self.assertEqual(part_of(PILE, 2, thing, (0,)), ["starts"])
                self.assertEqual(part_of(PILE, 2, thing, thing, thing), ["starts"])
                self.assertEqual(part_of(PILE, 2, (0, 1), thing), ["ends"])
                self.assertEqual(part_of(PILE, 2, (), thing, thing), ["ends"])
        for thing in odd_values():
            if thing not in ((), (0,)) or thing == (False,) and thing[0] is False:
                self.assertEqual(part_of(PILE, 2, thing, ()), ["starts"])
                self.assertEqual(part_of(PILE, 2, (), thing), ["ends"])

    def test_bad_steps(self):
        bad = [
            (0, (), "a"), (0, (), "a", 0, 0), [0, (), "a", 0], (0, [], "a", 0), (0, ["a"], "a", 0), (2, (), "a", 0),
            (0, (), "a", 2), (-1, (), "a", 0), (0, (), "a", -1), (True, (), "a", 0), (0, (), "a", False),
            (0, (), "c", 0), (0, (), None, 0), (0, (), ("a",), 0), (0, (), ["a"], 0), (0, (), {}, 0), (0, (), 0, 0),
            (0, (), True, 0), (0, "", "a", 0), (0, "a", "a", 0), (0, None, "a", 0), (0, ("b", "a"), "a", 0),
            (0, ("a", "a"), "a", 0), (0, ("a", ""), "a", 0), (0, ("", ""), "a", 0), (0, ("c",), "a", 0),
            (0, ("a", None), "a", 0), (0, (None,), "a", 0), (0, (["a"],), "a", 0), (0, ({},), "a", 0),
            (0, (0,), "a", 0), (0, (("a",),), "a", 0), (None, (), "a", 0), (0, (), "a", None), ([0], (), "a", 0),
            (0, (), "a", {}), (10 ** 39, (), "a", 0), (0, (), "*", 0), (0, (".",), "a", 0), (0, (), "-", 0), (), "a",
        ]
        for step in bad:
            with self.subTest(str(step)):
                self.assertIs(part_of(PILE, 2, (0,), (1,), step)[0], step)
                self.assertIs(part_of(PILE, 2, (0,), (1,), (0, (), "a", 0), step, 5)[0], step)
                with self.assertRaises(BadProgram) as caught:
                    Program.of(PILE, 2, (0,), (1,), ((0, (), "", 0), step, None))
                self.assertIs(caught.exception.part, step)

    def test_any_value_as_a_step(self):
        for thing in odd_values():
            with self.subTest(str(thing)[:40]):
                if thing != (0, (), "a", 0):
                    self.assertIs(part_of(PILE, 2, (0,), (1,), thing)[0], thing)

    def test_good_steps(self):
        good = [
            (0, (), "", 0), (1, (), "b", 0), (0, ("",), "a", 1), (0, ("", "a", "b"), "a", 1), (1, ("a", "b"), "", 1)]
        for step in good:
            self.assertEqual(Program(PILE, 2, (), (), step).steps, (step,))

    def test_of(self):
        for steps in odd_values():
            with self.subTest(str(steps)[:40]):
                for arguments, part in (
                        ((0, (0,), (0,), steps), "places"), ((1, (1,), (0,), steps), "starts"),
                        ((1, (0,), (1,), steps), "ends")):
                    with self.assertRaises(BadProgram) as caught:
                        Program.of(PILE, *arguments)
                    self.assertEqual(caught.exception.part, part)
                if steps == ():
                    continue
                with self.assertRaises(BadProgram) as caught:
                    Program.of(PILE, 1, (0,), (0,), steps)
                self.assertEqual(caught.exception.part, steps[0] if isinstance(steps, tuple) else "steps")
        self.assertEqual(Program.of(PILE, 1, (), (), ()).steps, ())

    def test_arguments_are_unchanged(self):
        starts, steps = [0], [[0, [], "a", 0]]
        for call in (lambda: Program(PILE, 1, starts, (), *steps), lambda: Program(PILE, 1, (0,), (), *steps),
                     lambda: Program.of(PILE, 1, (0,), (), steps)):
            with self.assertRaises(BadProgram):
                call()
        self.assertEqual((starts, steps), ([0], [[0, [], "a", 0]]))


class Equality(unittest.TestCase):

    def test_equal(self):
        draw = random.Random(41)
        for book in drawn_books(41, 20):
            program = drawn_program(draw, book)
            steps = list(program.steps) * 2
            draw.shuffle(steps)
            again = Book.of(book.entries, book.rules)
            other = Program(again, program.places, program.starts, program.ends, *steps)
            self.assertTrue(program == other)
            self.assertFalse(program != other)

    def test_unequal(self):
        steps = UPDOWN.steps
        others = [
            Program(Book(("a", "b")), 2, (0,), (1,), *steps), Program(PILE, 3, (0,), (1,), *steps),
            Program(PILE, 2, (0, 1), (1,), *steps), Program(PILE, 2, (0,), (0, 1), *steps),
            Program(PILE, 2, (0,), (1,), *steps[1:]), Program(PILE, 2, (), (1,), *steps),
            Program(PILE, 2, (0,), (), *steps), Program(PILE, 2, (0,), (1,), *steps, (0, (), "b", 0)),
        ]
        for other in others:
            self.assertFalse(UPDOWN == other)
            self.assertTrue(UPDOWN != other)

    def test_equal_to_no_other_value(self):
        for thing in [*odd_values(), PILE, UPDOWN.steps, UPDOWN.text]:
            self.assertIs(UPDOWN == thing, False)
            self.assertIs(thing == UPDOWN, False)


class Steps(unittest.TestCase):

    def test_goes_and_after_beside_the_words_of_the_document(self):
        draw = random.Random(42)
        for book in drawn_books(42, 30):
            program = drawn_program(draw, book, 3, 12)
            logs = [log for k in range(3) for log in book.nets(k)][:40]
            for place, log in itertools.product(range(program.places), logs):
                wanted = plain_after(program, place, log)
                self.assertEqual(program.goes(place, log), tuple(wanted))
                for number in range(-1, len(program.steps) + 1):
                    if number in wanted:
                        self.assertEqual(program.after(place, log, number), wanted[number])
                        continue
                    with self.assertRaises(NoStep) as caught:
                        program.after(place, log, number)
                    self.assertEqual(caught.exception.number, number)

    def test_looks(self):
        program = Program(PILE, 1, (0,), (), (0, (), "", 0), (0, ("",), "", 0), (0, ("", "b"), "", 0), (0, ("a",), "", 0),
                          (0, ("a", "b"), "", 0))
        self.assertEqual(program.goes(0, ()), (0, 1, 2))
        self.assertEqual(program.goes(0, ("b", "a")), (0, 3, 4))
        self.assertEqual(program.goes(0, ("b",)), (0, 2, 4))

    def test_no_step_for_any_value(self):
        for thing in odd_values():
            with self.subTest(str(thing)[:40]):
                if isinstance(thing, bool) or thing not in (0, 1):
                    with self.assertRaises(NoStep) as caught:
                        UPDOWN.after(0, (), thing)
                    self.assertIs(caught.exception.number, thing)
                with self.assertRaises(NoStep):
                    UPDOWN.after(1, (), thing)

    def test_bools_are_no_numbers(self):
        for number in (True, False):
            with self.assertRaises(NoStep) as caught:
                UPDOWN.after(0, (), number)
            self.assertIs(caught.exception.number, number)
            with self.assertRaises(NoStep) as caught:
                UPDOWN.follow(1, number)
            self.assertIs(caught.exception.number, number)

    def test_the_log_is_folded_at_once(self):
        program = Program(LAMP, 1, (0,), (0,), (0, (), "off", 0), (0, (), "on", 0), (0, ("on",), "mark", 0))
        self.assertEqual(program.after(0, ("mark", "on"), 0), (0, ("mark", "off")))
        self.assertEqual(program.after(0, ("mark", "on"), 2), (0, ("mark", "on", "mark")))
        deep = Book(("a", "b", "c", "d"), ("a", "c", ()), ("b", "d", ("c",)))
        self.assertEqual(Program(deep, 1, (), (), (0, (), "d", 0)).after(0, ("a", "b"), 0), (0, ()))

    def test_long_logs(self):
        log = ("b",) * 100 + ("a",) * 100
        self.assertEqual(UPDOWN.after(0, log, 1), (0, log + ("a",)))
        self.assertEqual(UPDOWN.after(1, log, 2), (1, log[:-1]))


class Follow(unittest.TestCase):

    def test_beside_after(self):
        draw = random.Random(43)
        for book in drawn_books(43, 40):
            program = drawn_program(draw, book, 3, 12)
            for start in range(program.places):
                place, log, numbers = start, (), []
                while program.goes(place, log) and len(numbers) < 30:
                    numbers.append(draw.choice(program.goes(place, log)))
                    place, log = program.after(place, log, numbers[-1])
                self.assertEqual(program.follow(*numbers, place=start), (place, log))
                middle = program.follow(*numbers[:7], place=start)
                self.assertEqual(program.follow(*numbers[7:], place=middle[0], log=middle[1]), (place, log))

    def test_without_numbers(self):
        self.assertEqual(UPDOWN.follow(), (0, ()))
        self.assertEqual(UPDOWN.follow(place=1, log=("a",)), (1, ("a",)))
        self.assertEqual(UPDOWN.follow(log=("b",)), (0, ("b",)))

    def test_the_first_start(self):
        program = Program(PILE, 3, (1, 2), (), (1, (), "a", 2), (2, (), "b", 2))
        self.assertEqual(program.follow(0), (2, ("a",)))
        self.assertEqual(program.follow(1, place=2), (2, ("b",)))

    def test_nothing_there(self):
        program = Program(PILE, 2, (), (1,), *UPDOWN.steps)
        for numbers in ((), (1, 0), (7,), (None,)):
            with self.assertRaises(NothingThere):
                program.follow(*numbers)
            with self.assertRaises(NothingThere):
                program.follow(*numbers, log=("a",))
        self.assertEqual(program.follow(1, 0, place=0), (1, ("a",)))

    def test_no_step(self):
        for thing in odd_values():
            for rest in ((), (1,), (None, [], 0)):
                with self.subTest(str(thing)[:40]), self.assertRaises(NoStep) as caught:
                    UPDOWN.follow(1, 0, thing if thing != 2 else 0, *rest)
                self.assertIs(caught.exception.number, thing if thing != 2 else 0)
        with self.assertRaises(NoStep) as caught:
            UPDOWN.follow(1, 0, 2, 2, 1)
        self.assertEqual(caught.exception.number, 2)

    def test_a_long_run(self):
        self.assertEqual(UPDOWN.follow(*[1] * 3000, 0, *[2] * 2990), (1, ("a",) * 10))


class States(unittest.TestCase):

    def test_beside_all_runs(self):
        draw = random.Random(44)
        for book in drawn_books(44, 60):
            program = drawn_program(draw, book, 3, 8)
            for many in range(5):
                states = list(program.states(many))
                self.assertEqual(states, plain_states(program, many))
                self.assertEqual(len(states), len(set(states)))

    def test_order(self):
        free = Program(FREE, 2, (0, 1), (), (0, (), "b", 1), (0, (), "a", 1), (1, (), "a", 0), (1, (), "", 1))
        self.assertEqual(list(free.states(1)), [(0, ()), (1, ()), (0, ("a",)), (1, ("a",)), (1, ("b",))])
        self.assertEqual(list(UPDOWN.states(2)), [(0, ()), (1, ()), (0, ("a",)), (1, ("a",)), (0, ("a", "a"))])
        shrinking = Program(SHORT, 3, (0,), (), (0, (), "a", 1), (1, (), "a", 2), (0, (), "", 0), (1, (), "", 2))
        self.assertEqual(list(shrinking.states(9)), [(0, ()), (1, ("a",)), (2, ()), (2, ("a",))])

    def test_none_and_few(self):
        self.assertEqual(list(Program(PILE, 2, (), (1,), *UPDOWN.steps).states(5)), [])
        self.assertEqual(list(UPDOWN.states(0)), [(0, ())])
        still = Program(PILE, 3, (0, 2), ())
        self.assertEqual(list(still.states(10 ** 39)), [(0, ()), (2, ())])
        ring = Program(ONCE, 2, (0,), (), (0, (), "a", 1), (1, (), "", 0))
        self.assertEqual(list(ring.states(10 ** 39)), [(0, ()), (1, ("a",)), (0, ("a",))])

    def test_a_great_bound(self):
        free = Program(FREE, 12, (0,), (), *[(p, (), x, (p + 1) % 12) for p in range(12) for x in (*FREE.entries[:4], "")])
        wanted = plain_states(free, 4)
        for many in (4, 60, 10 ** 39):
            self.assertEqual(list(itertools.islice(free.states(many), len(wanted))), wanted)
        first = list(itertools.islice(free.states(10 ** 39), 5000))
        self.assertEqual(len(set(first)), 5000)
        growing = list(itertools.islice(UPDOWN.states(10 ** 39), 2000))
        self.assertEqual(growing[-1], (1, ("a",) * 999))

    def test_begun_anew_and_two_at_once(self):
        program = Program(TURNS, 1, (0,), (), *[(0, (), x, 0) for x in TURNS.entries])
        wanted = plain_states(program, 3)
        once, twice = iter(program.states(3)), iter(program.states(3))
        for state in wanted:
            self.assertEqual((next(once), next(twice)), (state, state))
        self.assertEqual(list(program.states(3)), wanted)

    def test_many_places_and_steps(self):
        draw = random.Random(45)
        steps = [drawn_step(draw, FREE, 1000) for _ in range(5000)]
        program = Program(FREE, 1000, tuple(range(1000)), (0, 999), *steps)
        self.assertEqual(program.steps, tuple(sorted(set(steps))))
        self.assertEqual(len(list(program.states(0))), 1000)
        self.assertEqual(Program.read(program.text), program)
        for place in (0, 500, 999):
            self.assertEqual(program.goes(place, ("a",)), tuple(plain_after(program, place, ("a",))))


if __name__ == "__main__":
    unittest.main()
