"""The document as a whole: what the functions tell of one program fits together, and does not hang on how it is told."""

import itertools
import random
import unittest

from logfolds.books import Book
from logfolds.console import Console
from logfolds.ends import can_end, ending_run, endings, fewest, stuck_state, trap, unclear_log
from logfolds.fences import fence
from logfolds.findings import finding_holds
from logfolds.logsets import LogSet
from logfolds.meanings import Meaning, rules_that_fit
from logfolds.programs import Program
from logfolds.roads import length_of, road, run_of, step_at
from logfolds.settled import Forwarder, held, holding, settled
from logfolds.standing import growth_holds, growth_of, left, most, standing, stands

from tests.helpers import FREE, LAMP, PILE, UPDOWN, drawn_program, plain_net
from tests.plain_ends import drawn_states
from tests.plain_roads import calling, forced_run
from tests.plain_sets import first_logs
from tests.test_console import book_line, program_line
from tests.test_standing import renamed, renumbered
from tests.test_ways import drawn_programs, great_program


def told_of(program, name, number, states):
    """What is told of a program and of some states; the names and numbers are translated by two functions."""
    def log_of(log):
        return None if log is None else tuple(name(entry) for entry in log)

    found = [most(program), held(program)] if program.starts else []
    found += [state and log_of(state[1]) for state in (trap(program), stuck_state(program), holding(program, 1))]
    found += [log_of(log) for log in first_logs(left(program), 4)]
    for place, log in states:
        here = number(place)
        found += [
            stands(program, here, log), fewest(program, here, log), can_end(program, here, log),
            settled(program, here, log), fence(program, here, log) is None,
            [log_of(each) for each in first_logs(standing(program, here), 3)],
            [log_of(each) for each in first_logs(endings(program, here), 3)]]
        if stands(program, here, log):
            found.append(length_of(road(program, here, log)))
    return found


class ToldAlike(unittest.TestCase):

    def test_texts_names_numbers_and_order(self):
        draw = random.Random(2201)
        for program in drawn_programs(2202, 120):
            states = drawn_states(draw, program, 5, 3)
            told = told_of(program, str, int, states)
            steps = program.steps[::-1] + program.steps
            same = (Program.read(program.text),
                    Program(program.book, program.places, program.starts, program.ends, *steps))
            for other in same:
                self.assertEqual(told_of(other, str, int, states), told)
            names = {entry: "m" + entry[:7] for entry in program.book.entries}
            back = {there: here for here, there in names.items()}
            there = [(place, tuple(names[entry] for entry in log)) for place, log in states]
            self.assertEqual(told_of(renamed(program, names), back.get, int, there), told)
            numbers = draw.sample(range(program.places), program.places)
            self.assertEqual(told_of(renumbered(program, numbers), str, numbers.__getitem__, states), told)

    def test_told_again_the_same(self):
        draw = random.Random(2203)
        for program in drawn_programs(2204, 60):
            before = program.text
            states = drawn_states(draw, program, 5, 3)
            self.assertEqual(told_of(program, str, int, states), told_of(program, str, int, states))
            self.assertEqual(program.text, before)
            self.assertEqual(program, Program.read(before))

    def test_asked_in_any_order(self):
        # What was asked before does not matter for what is told.
        draw = random.Random(2205)
        for program in drawn_programs(2206, 40):
            states = drawn_states(draw, program, 4, 3)
            asks = [lambda p, s=s: (stands(p, *s), fewest(p, *s), settled(p, *s)) for s in states]
            asks += [lambda p: left(p).table, trap, stuck_state, lambda p: holding(p, 2), lambda p: growth_of(p) is None]
            wanted = [ask(Program.read(program.text)) for ask in asks]
            other = Program.read(program.text)
            order = draw.sample(range(len(asks)), len(asks))
            self.assertEqual([asks[k](other) for k in order], [wanted[k] for k in order])


class Together(unittest.TestCase):

    def test_what_is_told_fits_together(self):
        draw = random.Random(2207)
        for program in drawn_programs(2208, 120):
            if not program.starts:
                continue
            greatest, open_ones, grown = most(program), held(program), growth_of(program)
            self.assertEqual(greatest is None, grown is not None)
            if grown is not None:
                self.assertIs(growth_holds(program, grown), True)
            if greatest is not None:
                self.assertTrue(open_ones is not None and open_ones <= greatest)
            found = stuck_state(program)
            if found is not None:
                self.assertEqual(settled(program, *found), len(found[1]))
            for place, log in drawn_states(draw, program, 5, 3):
                self.assertTrue(endings(program, place, left(program)).within(endings(program, place)))
                if stands(program, place, log):
                    # What can end with what is left ends so: all that is behind a state that stands, stands.
                    self.assertEqual(fewest(program, place, log), fewest(program, place, log, left(program)))
                    run = run_of(road(program, place, log))
                    forwarders = [Forwarder(program, start) for start in program.starts]
                    ends = []
                    for forwarder in forwarders:
                        try:
                            sent = sum([forwarder.go(number) for number in run], ())
                        except Exception:
                            continue
                        ends.append((forwarder.place, forwarder.log))
                        self.assertEqual(sent, forwarder.sent)
                    self.assertIn((place, log), ends)

    def test_an_edit_and_its_undoing(self):
        # What an editor leaves is undone by another program; the meaning tells that nothing is left then.
        entries = ("add", "drop", "save")
        book = Book(entries, ("add", "drop", ()), ("save", "save", ("save",)))
        editor = Program(book, 2, (0,), (1,), (0, (), "add", 0), (0, ("add",), "drop", 0), (0, (), "save", 1),
                         (1, (), "add", 1), (1, (), "save", 1))
        undo = Program(book, 1, (0,), (0,), (0, ("add",), "drop", 0))
        self.assertEqual(unclear_log(editor, undo), ("save",))
        unsaved = Program(book, 1, (0,), (0,), (0, (), "add", 0), (0, ("add",), "drop", 0))
        self.assertIsNone(unclear_log(unsaved, undo))
        run = ending_run(undo, 0, ("add",) * 5, LogSet.of(book, ()))
        self.assertIs(finding_holds(("cleared", undo, 0, ("add",) * 5, run)), True)
        meaning = Meaning(book, 3, (1, 2, None), (None, 0, 1), (0, 1, 2))
        self.assertEqual(meaning.misfit(), ("add", "drop", 2))

    def test_rules_of_a_meaning(self):
        # Rules that fit make a book, whose programs leave what means the same.
        deeds = {"off": (0, 0), "on": (1, 1), "turn": (1, 0)}
        rules = rules_that_fit(2, **deeds)
        book = Book(tuple(sorted(deeds)), *rules)
        self.assertEqual(len(book), 9)
        meaning = Meaning(book, 2, *[deeds[name] for name in book.entries])
        self.assertIs(meaning.fits, True)
        program = Program(book, 1, (0,), (0,), *[(0, (), name, 0) for name in book.entries])
        self.assertEqual(list(left(program).logs()), [(), ("off",), ("on",), ("turn",)])
        self.assertEqual([most(program), held(program)], [1, 1])
        for row in itertools.product(book.entries, repeat=4):
            for condition in (0, 1):
                self.assertEqual(meaning.after(condition, book.net(row)), meaning.after(condition, row))
            self.assertEqual(program.follow(*[book.entries.index(name) for name in row]), (0, plain_net(book, row)))

    def test_calls_that_come_back(self):
        # Three places call the same procedure; each call comes back to where it was made.
        book = Book(("a", "b", "c", "z"), ("a", "z", ()), ("b", "z", ()), ("c", "z", ()))
        calls = [(0, (), "a", 4), (1, (), "b", 4), (2, (), "c", 4)]
        backs = [(5, ("a",), "z", 1), (5, ("b",), "z", 2), (5, ("c",), "z", 3)]
        program = Program(book, 6, (0,), (3,), *calls, *backs, (4, (), "", 5))
        self.assertEqual([list(standing(program, place).logs()) for place in range(4)], [[()]] * 4)
        self.assertEqual(run_of(road(program, 3, ())), (0, 3, 4, 1, 3, 5, 2, 3, 6))
        self.assertEqual([trap(program), stuck_state(program), most(program), held(program)], [None, None, 1, 1])
        # If the procedure may call itself, calls are nested, and still come back in turn.
        deep = Program(book, 6, (0,), (3,), *program.steps, (4, (), "b", 4))
        self.assertEqual(stuck_state(deep), None)
        # Only the last call of several comes back to where there is a way on.
        self.assertEqual([most(deep), held(deep), trap(deep)], [None, 1, None])
        self.assertEqual(first_logs(left(deep), 3), [(), ("a",), ("b",)])

    def test_so_many_logs_that_no_way_of_going_through_them_ends(self):
        # Nine times one of five entries is written: 5 ** 9 logs at one place.
        steps = [(place, (), entry, place + 1) for place in range(9) for entry in "abcde"]
        program = Program(FREE, 12, (0,), (10,), *steps, (9, ("a",), "", 10), (9, ("b",), "", 11), (11, (), "f", 11))
        self.assertEqual(standing(program, 9).count(9), 5 ** 9)
        self.assertEqual([standing(program, 9).longest(), left(program).count(9)], [9, 5 ** 8])
        self.assertEqual(trap(program), (9, ("a",) * 8 + ("b",)))
        self.assertEqual(stuck_state(program), (9, ("a",) * 8 + ("c",)))
        self.assertEqual([most(program), held(program), holding(program, 1)], [None, 0, None])
        self.assertEqual(first_logs(left(program), 2), [("a",) * 9, ("a",) * 7 + ("b", "a")])
        self.assertEqual(endings(program, 0, left(program)).table, ((True, ()),))
        self.assertEqual(unclear_log(program, Program(FREE, 1, (0,), (0,))), ("a",) * 9)
        undone = Program(Book(tuple("abcdef"), *[(x, "f", ()) for x in "abcde"]), 1, (0,), (0,),
                         *[(0, (x,), "f", 0) for x in "abcde"])
        other = Program(undone.book, 10, (0,), (9,), *steps)
        self.assertEqual(left(other).count(9), 5 ** 9)
        self.assertIsNone(unclear_log(other, undone))
        both = other + undone
        self.assertEqual([held(both), most(both), trap(both)], [9, 9, None])
        self.assertEqual(holding(both, 9), (9, ("a",) * 9))


class Long(unittest.TestCase):

    def test_runs_of_millions_of_steps_and_more(self):
        for counts in ([3] * 13, [2] * 40, [3] * 70):
            program, length = calling(counts)
            self.assertGreater(length, 10 ** 6)
            many = len(counts)
            console = Console()
            for line in (book_line(program.book), program_line("p", program)):
                self.assertEqual(console.say(line), "ok")
            for line, reply in (
                    (f"stands p {many}", f"yes {length}"), (f"run p {many}", "long"), ("held p", str(many)),
                    (f"stands p {many} d a", "no"), ("trap p", "none")):
                self.assertEqual(console.say(line), reply, line)
            found = road(program, many, ())
            begin, _ = forced_run(program, 100)
            self.assertEqual(tuple(step_at(found, index) for index in range(100)), begin)
            self.assertEqual(fewest(program, 0, (), LogSet.of(program.book, ())), length)
            self.assertIs(finding_holds(("stands", program, many, (), found)), True)

    def test_great_programs(self):
        for seed, book in ((81, LAMP), (82, FREE), (83, PILE)):
            program = great_program(seed, book)
            console = Console()
            self.assertEqual([console.say(book_line(book)), console.say(program_line("p", program))], ["ok", "ok"])
            greatest = most(program)
            self.assertEqual(console.say("most p"), "endless" if greatest is None else str(greatest))
            state = trap(program)
            self.assertEqual(console.say("trap p") == "none", state is None)
            for log in first_logs(left(program), 3):
                found = road(program, 11, log)
                told = console.say(" ".join(["stands", "p", "11", *log]))
                self.assertEqual(told, f"yes {length_of(found)}")
                self.assertEqual(console.say(" ".join(["run", "p", "11", *log])),
                                 " ".join(map(str, run_of(found))) or "-")

    def test_put_together(self):
        draw = random.Random(2209)
        for number in range(40):
            book = (PILE, LAMP)[number % 2]
            one, other = drawn_program(draw, book, 3, 6), drawn_program(draw, book, 3, 6)
            if not one.starts or not other.starts:
                continue
            for program in (one + other, one | other, one & other, one.again()):
                kept = [most(program), held(program), len(left(program).table), trap(program)]
                same = Program.read(program.text)
                self.assertEqual([most(same), held(same), len(left(same).table), trap(same)], kept)
                for log in first_logs(left(program), 2):
                    end = next(end for end in program.ends if stands(program, end, log))
                    self.assertIs(finding_holds(("stands", program, end, log, road(program, end, log))), True)
        self.assertEqual(UPDOWN.text, Program.read(UPDOWN.text).text)


if __name__ == "__main__":
    unittest.main()
