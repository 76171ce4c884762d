"""A console: commands in lines of words, for a book and for programs with names."""

from logfolds.commands import command_told
from logfolds.ends import stuck_state, trap, unclear_log
from logfolds.errors import InvalidCommand, NoBook, UnknownName
from logfolds.programs import Program
from logfolds.roads import length_of, road, run_of
from logfolds.settled import held
from logfolds.standing import left, most, stands

# A run that is longer is not told.
MOST_STEPS = 100

# The commands that make a program of others.
MAKING = ("then", "either", "both", "again")


def log_words(log):
    """The words for a log."""
    return " ".join(log) if log else "-"


def state_words(state):
    """The words for a state, or for None."""
    return "none" if state is None else f"{state[0]} {log_words(state[1])}"


def number_words(number):
    """The word for a greatest number, or for None, if there is none."""
    return "endless" if number is None else str(number)


def program_made(word, programs):
    """The program that a command makes of others."""
    if word == "again":
        return programs[0].again()
    if word == "then":
        return programs[0] + programs[1]
    if word == "either":
        return programs[0] | programs[1]
    return programs[0] & programs[1]


def stands_words(program, place, log):
    """Whether a log stands, and the length of the shortest run."""
    if not stands(program, place, log):
        return "no"
    return f"yes {length_of(road(program, place, log))}"


def run_words(program, place, log):
    """The numbers of the steps of a shortest run."""
    if not stands(program, place, log):
        return "no"
    found = road(program, place, log)
    if length_of(found) > MOST_STEPS:
        return "long"
    return " ".join([str(number) for number in run_of(found)]) or "-"


def left_words(program, many):
    """The first logs that are left."""
    logset = left(program)
    found = []
    for log in logset.logs():
        if len(found) == many:
            break
        found.append(log_words(log))
    return " / ".join(found) or "none"


def clears_words(program, other):
    """Whether the other program clears all logs that a program leaves, or the least one that it does not."""
    log = unclear_log(program, other)
    return "yes" if log is None else log_words(log)


def greatest_words(word, program):
    """The reply to "most" and "held"."""
    if program.starts == ():
        return "none"
    return number_words(most(program) if word == "most" else held(program))


def reply_to(word, programs, rest):
    """The reply to a command that asks something of programs; the rest is what it tells behind their names."""
    program = programs[0]
    if word == "stands":
        return stands_words(program, *rest)
    if word == "run":
        return run_words(program, *rest)
    if word == "left":
        return left_words(program, *rest)
    if word == "trap":
        return state_words(trap(program))
    if word == "stuck":
        return state_words(stuck_state(program))
    if word == "clears":
        return clears_words(program, programs[1])
    return greatest_words(word, program)


class Console:
    """A book, at first none, and programs by their names."""

    def __init__(self):
        self._book = None
        self._programs = {}

    def say(self, line):
        """Executes a command, any value, and returns the reply."""
        told = command_told(line, self._book)
        if told is None:
            raise InvalidCommand(line)
        word, parts = told
        if word == "book":
            self._book = parts[0]
            self._programs = {}
            return "ok"
        if self._book is None:
            raise NoBook()
        if word == "program":
            name, places, starts, ends, steps = parts
            self._programs[name] = Program(self._book, places, starts, ends, *steps)
            return "ok"
        return self._answered(line, word, parts)

    def _answered(self, line, word, parts):
        """Executes a command that names programs which are there, and returns the reply."""
        if word in MAKING:
            self._programs[parts[0]] = program_made(word, self._programs_of(parts[1:]))
            return "ok"
        many = 2 if word == "clears" else 1
        programs = self._programs_of(parts[:many])
        if word == "forget":
            del self._programs[parts[0]]
            return "ok"
        if word in ("stands", "run") and parts[1] >= programs[0].places:
            raise InvalidCommand(line)
        return reply_to(word, programs, parts[many:])

    def _programs_of(self, names):
        """The programs with these names."""
        for name in names:
            if name not in self._programs:
                raise UnknownName(name)
        return [self._programs[name] for name in names]
