"""A console that is told in other words: patterns for the lines, and the functions of the package for the replies."""

import itertools
import re

from logfolds.books import Book
from logfolds.ends import stuck_state, trap, unclear_log
from logfolds.errors import InvalidCommand, InvalidText, NoBook, NoLog, UnknownName
from logfolds.programs import Program
from logfolds.roads import length_of, road, run_of
from logfolds.settled import held
from logfolds.standing import left, most, stands

NAME = "[a-z]{1,8}"
NUMBER = "(?:0|[1-9][0-9]{0,8})"
LOG = f"(?: {NAME})*"
PATTERNS = {
    "then": f"then ({NAME}) ({NAME}) ({NAME})", "either": f"either ({NAME}) ({NAME}) ({NAME})",
    "both": f"both ({NAME}) ({NAME}) ({NAME})", "again": f"again ({NAME}) ({NAME})", "forget": f"forget ({NAME})",
    "stands": f"stands ({NAME}) ({NUMBER})({LOG})", "run": f"run ({NAME}) ({NUMBER})({LOG})", "most": f"most ({NAME})",
    "left": f"left ({NAME}) (100|[1-9][0-9]|[0-9])", "trap": f"trap ({NAME})", "stuck": f"stuck ({NAME})",
    "clears": f"clears ({NAME}) ({NAME})", "held": f"held ({NAME})",
}


def words_of(log):
    """The words for a log."""
    return " ".join(log) or "-"


def some_book(body):
    """A book with all names that stand in a text."""
    names = sorted(set(re.findall("(?<![a-z])[a-z]{1,8}(?![a-z])", body)))
    return Book(tuple(names or ["a"]))


class PlainConsole:

    def __init__(self):
        self.book = None
        self.programs = {}

    def parsed(self, line):
        """The word of a command and its parts."""
        if not isinstance(line, str) or "\n" in line:
            raise InvalidCommand(line)
        try:
            if line.startswith("book "):
                return "book", Book.read(line[5:].replace(" / ", "\n"))
            found = re.fullmatch(f"program ({NAME}) (places .*)", line)
            if found:
                body = found[2].replace(" / ", "\n")
                book = some_book(body) if self.book is None else self.book
                return "program", found[1], Program.read(book.text + "\n" + body)
        except InvalidText:
            raise InvalidCommand(line)
        for word, pattern in PATTERNS.items():
            found = re.fullmatch(pattern, line)
            if found:
                parts = list(found.groups())
                if word in ("stands", "run"):
                    parts[1:] = [int(parts[1]), tuple(parts[2].split())]
                    if self.book is not None and not self.book.is_net(parts[2]):
                        raise InvalidCommand(line)
                return (word, *parts)
        raise InvalidCommand(line)

    def say(self, line):
        word, *parts = self.parsed(line)
        if word == "book":
            self.book, self.programs = parts[0], {}
            return "ok"
        if self.book is None:
            raise NoBook()
        if word == "program":
            self.programs[parts[0]] = parts[1]
            return "ok"
        new = word in ("then", "either", "both", "again")
        for name in parts[new:]:
            if isinstance(name, str) and not name.isdigit() and name not in self.programs:
                raise UnknownName(name)
        if word in ("stands", "run") and parts[1] >= self.programs[parts[0]].places:
            raise InvalidCommand(line)
        if new:
            one = self.programs[parts[1]]
            other = self.programs[parts[-1]]
            made = {"then": one.__add__, "either": one.__or__, "both": one.__and__}
            self.programs[parts[0]] = one.again() if word == "again" else made[word](other)
            return "ok"
        if word == "forget":
            del self.programs[parts[0]]
            return "ok"
        return getattr(self, word)(self.programs[parts[0]], *parts[1:])

    def stands(self, program, place, log):
        return f"yes {length_of(road(program, place, log))}" if stands(program, place, log) else "no"

    def run(self, program, place, log):
        if not stands(program, place, log):
            return "no"
        found = road(program, place, log)
        return "long" if length_of(found) > 100 else " ".join(map(str, run_of(found))) or "-"

    def greatest(self, ask, program):
        try:
            found = ask(program)
        except NoLog:
            return "none"
        return "endless" if found is None else str(found)

    def most(self, program):
        return self.greatest(most, program)

    def held(self, program):
        return self.greatest(held, program)

    def left(self, program, many):
        return " / ".join(words_of(log) for log in itertools.islice(left(program).logs(), int(many))) or "none"

    def state(self, found):
        return f"{found[0]} {words_of(found[1])}" if found else "none"

    def trap(self, program):
        return self.state(trap(program))

    def stuck(self, program):
        return self.state(stuck_state(program))

    def clears(self, program, name):
        log = unclear_log(program, self.programs[name])
        return "yes" if log is None else words_of(log)


def told_of(console, line):
    """The reply of a console, or the error with its attributes."""
    try:
        return console.say(line)
    except Exception as error:
        return type(error).__name__, {name: repr(part) for name, part in vars(error).items()}


