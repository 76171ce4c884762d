"""The console (point 20)."""

import random
import unittest

from logfolds.books import Book
from logfolds.console import Console
from logfolds.errors import InvalidCommand, NoBook, UnknownName
from logfolds.programs import Program

from tests.helpers import BOOKS, PILE, UPDOWN, drawn_book, drawn_program, odd_values
from tests.plain_console import PlainConsole, told_of
from tests.plain_roads import calling
from tests.plain_sets import short_nets

PILE_LINE = "book entries a b / a b"
UPDOWN_LINE = "program p places 2 / starts 0 / ends 1 / 0 * - 1 / 0 * a 0 / 1 a b 1"


def book_line(book):
    """The command that tells a book."""
    return "book " + book.text.replace("\n", " / ")


def program_line(name, program):
    """The command that tells a program."""
    lines = program.text.split("\n")[1 + len(program.book.rules):]
    return f"program {name} " + " / ".join(lines)


def begun(*lines):
    """A console that was told some commands."""
    console = Console()
    for line in (PILE_LINE, UPDOWN_LINE, *lines):
        assert console.say(line) == "ok"
    return console


class Refusing(unittest.TestCase):

    def check_invalid(self, console, line):
        """Checks that a line is no command."""
        with self.assertRaises(InvalidCommand) as caught:
            console.say(line)
        self.assertEqual(repr(caught.exception.line), repr(line))

    def check_unknown(self, console, line, name):
        """Checks that a line names a program that is not there."""
        with self.assertRaises(UnknownName) as caught:
            console.say(line)
        self.assertEqual(caught.exception.name, name)


class Examples(unittest.TestCase):

    def test_example(self):
        console = Console()
        self.assertEqual([console.say(PILE_LINE), console.say(UPDOWN_LINE)], ["ok", "ok"])
        self.assertEqual(
            [console.say(line) for line in ("stands p 1 a a", "run p 1 a a", "most p", "left p 3", "held p")],
            ["yes 3", "1 1 0", "endless", "- / a / a a", "endless"])

    def test_each_command(self):
        console = begun("program one places 1 / starts 0 / ends 0", "program down places 1 / starts 0 / ends 0 / 0 a b 0")
        for line, reply in (
                ("stands p 0", "yes 0"), ("stands p 1", "yes 1"), ("stands p 0 b", "no"), ("stands p 1 b a", "no"),
                ("run p 0", "-"), ("run p 1", "0"), ("run p 0 b", "no"), ("run p 0 a a a", "1 1 1"),
                ("left p 0", "none"), ("left p 1", "-"), ("left one 100", "-"), ("trap p", "none"), ("stuck p", "none"),
                ("clears p one", "a"), ("clears p down", "yes"), ("most one", "0"), ("held one", "0"),
                ("then q one p", "ok"), ("stands q 2", "yes 2"), ("either q one p", "ok"), ("stands q 2", "yes 1"),
                ("both q one p", "ok"), ("stands q 1 a", "yes 2"), ("again q p", "ok"), ("stands q 0 a", "yes 1"),
                ("forget one", "ok"), ("then p p p", "ok"), ("stands p 3 a", "yes 4"), ("left p 2", "- / a")):
            self.assertEqual(console.say(line), reply, line)
        self.assertRaises(UnknownName, console.say, "most one")

    def test_by_name(self):
        console = Console()
        self.assertEqual(console.say(line=PILE_LINE), "ok")
        self.assertRaises(InvalidCommand, console.say, line=None)


class Replies(Refusing):

    def test_long_runs(self):
        console = begun()
        for many, reply in ((0, "-"), (1, "1"), (100, " ".join("1" * 100)), (101, "long"), (300, "long")):
            log = "".join(" a" for _ in range(many))
            self.assertEqual(console.say("run p 0" + log), reply)
            self.assertEqual(console.say("stands p 0" + log), f"yes {many}")

    def test_very_long_runs(self):
        for many in (11, 70):
            program, length = calling([3] * many)
            console = Console()
            self.assertEqual([console.say(book_line(program.book)), console.say(program_line("p", program))], ["ok", "ok"])
            self.assertEqual(console.say(f"stands p {many}"), f"yes {length}")
            self.assertEqual(console.say(f"run p {many}"), "long")
            self.assertEqual(console.say("held p"), str(many))

    def test_left(self):
        console = begun("program two places 3 / starts 0 / ends 1 2 / 0 * - 1 / 0 * b 2")
        for line, reply in (("left p 0", "none"), ("left p 1", "-"), ("left p 4", "- / a / a a / a a a"),
                            ("left two 0", "none"), ("left two 1", "-"), ("left two 2", "- / b"), ("left two 3", "- / b"),
                            ("left two 100", "- / b")):
            self.assertEqual(console.say(line), reply)
        told = console.say("left p 100").split(" / ")
        self.assertEqual([told[0], told[1:]], ["-", [" ".join("a" * many) for many in range(1, 100)]])
        for line in ("left p 101", "left p 1000", "left p 999999999", "left p -1", "left p", "left p 01", "left p 1 1",
                     "left p a", "left q 101"):
            self.check_invalid(console, line)
        self.assertEqual(console.say("program e places 1 / starts / ends 0"), "ok")
        self.assertEqual(console.say("left e 5"), "none")

    def test_without_starts(self):
        console = begun("program e places 2 / starts / ends 1 / 0 * a 1")
        for line, reply in (("most e", "none"), ("held e", "none"), ("left e 1", "none"), ("trap e", "none"),
                            ("stuck e", "none"), ("clears e e", "yes"), ("clears p e", "-"), ("clears e p", "yes"),
                            ("stands e 0", "no"), ("run e 1 a", "no")):
            self.assertEqual(console.say(line), reply)

    def test_states(self):
        console = begun(
            "program q places 3 / starts 0 / ends 0 / 0 * b 1 / 1 * a 2 / 2 a b 2",
            "program r places 3 / starts 0 / ends 0 / 0 * - 1", "program s places 2 / starts 0 / ends / 0 * a 0")
        for line, reply in (("trap q", "1 b"), ("stuck q", "2 b"), ("trap r", "1 -"), ("stuck r", "1 -"), ("trap s", "0 -"),
                            ("stuck s", "none"), ("most q", "2"), ("held q", "1"), ("held r", "0"), ("most r", "0")):
            self.assertEqual(console.say(line), reply, line)

    def test_a_book_forgets_all_programs(self):
        console = begun()
        self.assertEqual(console.say(PILE_LINE), "ok")
        self.check_unknown(console, "most p", "p")
        self.assertEqual(console.say(UPDOWN_LINE), "ok")
        self.assertEqual(console.say("book entries a b c"), "ok")
        self.check_unknown(console, "stands p 0 c", "p")
        self.check_invalid(console, "stands p 0 d")
        self.check_unknown(console, "stands p 0 a b", "p")

    def test_a_new_program_takes_the_place(self):
        console = begun("program q places 1 / starts 0 / ends 0 / 0 * b 0")
        self.assertEqual(console.say("left q 2"), "- / b")
        self.assertEqual(console.say("then q q p"), "ok")
        self.assertEqual(console.say("left q 3"), "- / a / b")
        self.assertEqual(console.say("again q q"), "ok")
        self.assertEqual(console.say("either q q q"), "ok")
        self.assertEqual(console.say("stands q 5"), "yes 2")
        self.assertEqual(console.say("program q places 1 / starts 0 / ends 0"), "ok")
        self.assertEqual(console.say("left q 100"), "-")
        self.assertEqual(console.say("left p 2"), "- / a")

    def test_two_consoles(self):
        one, other = begun(), Console()
        self.assertRaises(NoBook, other.say, "most p")
        self.assertEqual(other.say("book entries x"), "ok")
        self.check_unknown(other, "most p", "p")
        self.assertEqual(other.say("program p places 1 / starts 0 / ends 0 / 0 * x 0"), "ok")
        self.assertEqual([one.say("left p 2"), other.say("left p 2")], ["- / a", "- / x"])
        one.say("forget p")
        self.assertEqual(other.say("most p"), "endless")


class NoCommands(Refusing):

    FORMS = (
        "", " ", "p", "books", "Book entries a", "book", "book ", "book a", "book entries", "book entries ", "book entry a",
        "book entries a ", " book entries a", "book  entries a", "book entries  a", "book entries b a",
        "book entries a a", "book entries a /", "book entries a / ", "book / entries a", "book entries a / a",
        "book entries a /a a", "book entries a/ a a", "book entries a / a a / ", "book entries a / a a a a",
        "book entries a / a b", "book entries a / a a / a a a", "book entries a b / b a / a b", "book entries abcdefghi",
        "book entries A", "book entries a1", "book entries a\n", "book entries a\na a", "book entries a b / a b / b a a",
        "book entries a b / a b\n", "book entries a b / a  b", "book entries a b / a a / a b a / b b b",
        "program", "program p", "program p ", "program p places 1", "program p places 1 / starts", "program places 1",
        "program p places 1 / starts / ends /", "program p places 0 / starts / ends", "program P places 1 / starts / ends",
        "program p places 01 / starts / ends", "program p places 1001 / starts / ends", "program pppppppppp places 1",
        "program p places 1 / starts 1 / ends", "program p places 1 / starts 0 0 / ends", "program p places 1/ starts / ends",
        "program p places 2 / starts 1 0 / ends", "program p places 1 / ends / starts", "program  p places 1 / starts / ends",
        "program p places 1 / starts  / ends", "program p places 1 / starts / ends / 0 * a", "program p q places 1",
        "program p places 1 / starts / ends / 0 * A 0", "program p places 1 / starts / ends / 0 * a 1",
        "program p places 1 / starts / ends / 0 * a 00", "program p places 1 / starts / ends / 0 b,a - 0",
        "program p places 1 / starts / ends / 0 * a 0 / 0 * - 0", "program p places 1 / starts / ends / 0 * - 0 / 0 * - 0",
        "program p a b / places 1 / starts / ends", "program p entries a b / a b / places 1 / starts / ends",
        "program p places 1 / starts / ends / 0 - a 0", "program p places 1 / starts / ends / 0 * . 0",
        "program p places 1 / starts / ends / 0 * a 0\n", "program p places 1\nstarts\nends",
        "then", "then p", "then p p", "then p p p p", "then p p p ", "then  p p p", " then p p p", "then p p P", "then p p 1",
        "then p p abcdefghi", "Then p p p", "either p p", "both p p", "both p p p p", "again", "again p", "again p p p",
        "forget", "forget p p", "forget ", "forget p ", "forget 1", "forgets p",
        "stands", "stands p", "stands p ", "stands p 0 ", "stands p  0", "stands  p 0", "stands p 00", "stands p 01",
        "stands p -1", "stands p +1", "stands p a", "stands p 0  a", "stands p 0 a ", "stands p 0 A", "stands p 0 a,a",
        "stands p 0 -", "stands p 0 /", "stands p 1234567890", "stands p 0000000001", "stands p 0 a\n", "stands p 0.0",
        "stands p 1_0", "stands p 0 abcdefghi", "stands P 0", "stands pp- 0", "stands 0 p", "run", "run p", "run p 0 1",
        "run p 0 a  a", "run p 1 .", "run p 9999999999", "most", "most p p", "most p 0", "most ", "most  p", "held",
        "held p p", "held 0", "trap", "trap p 0", "trap p p", "stuck", "stuck p p", "stuck p ", "clears", "clears p",
        "clears p p p", "clears p 0", "clears p  p", "left", "left p", "left p 101", "left p 00", "left p 1 ", "left 1 p",
        "/", "book /", "book entries a / / a a", "quit", "help", "say most p", "most\tp", "most p;", "then p=p p p",
    )

    def test_forms(self):
        for console in (Console(), begun()):
            for line in self.FORMS:
                self.check_invalid(console, line)
            for thing in odd_values():
                self.check_invalid(console, thing)
        self.assertEqual(console.say("left p 3"), "- / a / a a")

    def test_what_is_a_command_is_told(self):
        # The same lines with the one thing put right are commands.
        for line in ("program p places 1 / starts / ends", "program p places 1 / starts / ends / 0 .,a b 0",
                     "then p p p", "stands p 1", "stands p 999999999", "run p 0 b a", "left p 100", "left p 0", "held p",
                     "stands abcdefgh 0", "stands p 0 abcdefgh", "stands p 0 a b", "clears p q", "forget q",
                     "program p places 1000 / starts 999 / ends 0 / 0 c,x,yy zz 0"):
            self.assertRaises(NoBook, Console().say, line)

    def test_rows_and_texts_with_a_book(self):
        console = begun()
        for log in ("a b", "b a b", "c", "a c", "abcdefgh"):
            for line in (f"stands p 0 {log}", f"run p 0 {log}", f"stands q 0 {log}", f"run q 7 {log}"):
                self.check_invalid(console, line)
        for body in ("places 1 / starts / ends / 0 * c 0", "places 1 / starts / ends / 0 c - 0",
                     "places 1 / starts / ends / 0 a,c - 0", "places 1 / starts / ends / 0 .,a,b,c - 0"):
            self.check_invalid(console, "program p " + body)
            self.assertRaises(NoBook, Console().say, "program p " + body)
        self.assertEqual(console.say("stands p 1 a"), "yes 2")

    def test_entries_with_the_names_of_words(self):
        book = Book(("ends", "entries", "places", "starts"), ("places", "starts", ()))
        console = Console()
        self.assertEqual(console.say(book_line(book)), "ok")
        program = Program(book, 2, (0,), (1,), (0, ("", "places"), "starts", 1), (0, (), "places", 0))
        self.assertEqual(console.say(program_line("starts", program)), "ok")
        self.assertEqual(console.say("left starts 3"), "- / places / starts")
        self.check_invalid(console, "program p places starts / places 1 / starts / ends")
        self.assertEqual(console.say("stands starts 0 places places"), "yes 2")


class Order(Refusing):

    def test_first_no_command_then_no_book(self):
        console = Console()
        for line in ("most p", "stands p 0 a b c", "run q 999999999", "then a b c", "forget p", "left p 100", UPDOWN_LINE):
            self.assertRaises(NoBook, console.say, line)
        for line in ("stands p 0 a-b", "left p 101", "stands p 1234567890", "program p places 1", "most P"):
            self.check_invalid(console, line)

    def test_then_the_names_in_their_order(self):
        console = begun()
        for line, name in (
                ("then x y z", "y"), ("then x p z", "z"), ("then x y p", "y"), ("either x y y", "y"), ("both p p z", "z"),
                ("again x y", "y"), ("again p y", "y"), ("forget x", "x"), ("stands x 999999999", "x"), ("run x 2 a", "x"),
                ("most x", "x"), ("left x 0", "x"), ("trap x", "x"), ("stuck x", "x"), ("clears x y", "x"),
                ("clears p y", "y"), ("clears x p", "x"), ("held x", "x")):
            self.check_unknown(console, line, name)
        self.check_unknown(console, "most x", "x")

    def test_then_the_place(self):
        console = begun("program q places 12 / starts 0 / ends 0")
        for line in ("stands p 2", "stands p 999999999", "run p 2 a", "run p 12", "stands q 12"):
            self.check_invalid(console, line)
        self.assertEqual([console.say("stands q 11"), console.say("run p 1")], ["no", "0"])
        # A log that is no net goes before a name that is not there, and before a place that is none.
        self.check_invalid(console, "stands x 2 a b")
        self.check_unknown(console, "stands x 2 b a", "x")

    def test_nothing_changes(self):
        console = begun()
        before = [console.say(line) for line in ("left p 3", "most p", "stands p 1 a")]
        for line in ("book entries b a", "book entries a b / a b / b a a", "program p places 1", "program p places 0 / starts",
                     "program p places 1 / starts / ends / 0 * c 0", "then p p x", "either p x p", "again p x", "both p x x",
                     "forget x", "forget p p", "book", None, 0, "then p p", "stands p 5"):
            self.assertRaises((InvalidCommand, UnknownName), console.say, line)
            self.assertEqual([console.say(line) for line in ("left p 3", "most p", "stands p 1 a")], before)
        empty = Console()
        for line in (UPDOWN_LINE, "then p p p", "book entries b a", "forget p"):
            self.assertRaises((NoBook, InvalidCommand), empty.say, line)
        self.assertRaises(NoBook, empty.say, "most p")


def drawn_command(draw, book):
    """A command, most often a good one, for a few names of programs."""
    def name():
        return draw.choice(["p", "q", "r", "p", "q", "longname"])

    def state():
        log = draw.choice(short_nets(book, 2)) if draw.randrange(6) else ("a", "b", "a")
        return " ".join([name(), str(draw.randrange(5)), *log])

    word = draw.choice((
        "program", "program", "program", "then", "either", "both", "again", "forget", "stands", "stands", "stands", "run",
        "run", "run", "most", "left", "left", "trap", "stuck", "clears", "clears", "held"))
    if word == "program":
        return program_line(name(), drawn_program(draw, book, 3, 6))
    if word in ("then", "either", "both"):
        return f"{word} {draw.choice('xyp')} {name()} {name()}"
    if word in ("stands", "run"):
        return f"{word} {state()}"
    if word == "left":
        return f"left {name()} {draw.choice((0, 1, 2, 5, 100, 101))}"
    return " ".join([word, *[name() for _ in range(2 if word in ("again", "clears") else 1)]])


def miswritten(draw, line):
    """A line with one thing otherwise."""
    k = draw.randrange(len(line) + 1)
    words = line.split(" ")
    j = draw.randrange(len(words))
    return draw.choice((
        line[:k] + draw.choice(" 0ab/*-.,\nAz1") + line[k:], line[:k] + line[k + 1:],
        line[:k] + draw.choice(" 0ab/*-.,z1") + line[k + 1:],
        " ".join(words[:j] + words[j + 1:]), " ".join(words[:j] + words[j:j + 1] + words[j:]),
        " ".join(words[:j] + [draw.choice(("a", "b", "p", "0", "1", "2", "/", "-", "places", "starts", "9" * 9, "1" * 10))]
                 + words[j + 1:])))


class BesideAnotherConsole(unittest.TestCase):

    def test_drawn_commands(self):
        draw = random.Random(2101)
        words = {}
        for number in range(40):
            book = BOOKS[number // 2 % len(BOOKS)] if number % 2 else drawn_book(draw)
            one, other = Console(), PlainConsole()
            for at in range(80):
                line = book_line(book) if at == 3 or draw.randrange(60) == 0 else drawn_command(draw, book)
                if draw.randrange(4) == 0:
                    line = miswritten(draw, line)
                if max([program.places for program in other.programs.values()], default=0) > 15:
                    line = book_line(book)
                reply = told_of(one, line)
                self.assertEqual(reply, told_of(other, line), line)
                words[reply if isinstance(reply, str) else reply[0]] = True
        for word in ("ok", "no", "none", "endless", "-", "yes 0", "InvalidCommand", "NoBook", "UnknownName"):
            self.assertIn(word, words)

    def test_lines_with_one_thing_otherwise(self):
        draw = random.Random(2102)
        lines = [PILE_LINE, UPDOWN_LINE, "stands p 1 a a", "run p 0", "left p 3", "then q p p", "clears p p",
                 program_line("q", UPDOWN & UPDOWN)]
        kinds = {}
        for _ in range(4000):
            line = miswritten(draw, draw.choice(lines))
            one, other = Console(), PlainConsole()
            if draw.randrange(4):
                for good in (PILE_LINE, UPDOWN_LINE):
                    self.assertEqual([one.say(good), other.say(good)], ["ok", "ok"])
            reply = told_of(one, line)
            self.assertEqual(reply, told_of(other, line), line)
            kinds[reply if isinstance(reply, str) else reply[0]] = True
        self.assertGreater(len(kinds), 6)
        self.assertEqual(PILE.text, "entries a b\na b")


if __name__ == "__main__":
    unittest.main()
