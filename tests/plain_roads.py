"""Roads written by hand for any run, a plain check of roads by the words of point 12, and programs with long runs."""

from logfolds.programs import Program

from tests.helpers import MARKS, plain_after, results_of
from tests.plain_ways import all_forms, put_upon


class HandRoad:
    """The lines for a run from a start, however long the run is: one line or more for each step."""

    def __init__(self, program, start):
        self.program = program
        self.results = results_of(program.book.rules)
        self.lines = []
        # For each entry of the log, and for the ground beneath it: the line of the way that goes on from it.
        self.levels = [self.line(("stays", "", start, start), ("none",))]

    def line(self, way, why):
        """Writes a line and returns its number."""
        self.lines.append((way, why))
        return len(self.lines) - 1

    def way(self, number):
        """The way of the line with this number."""
        return self.lines[number][0]

    def step(self, number):
        """Makes a step."""
        _, _, entry, to = self.program.steps[number]
        top = self.levels.pop()
        _, under, place, _ = self.way(top)
        way = put_upon(self.results, under, place, entry, to) if entry else ("stays", under, place, to)
        self.settle(self.line(way, ("step", top, number)))

    def settle(self, number):
        """Puts the way of a line upon what is there, folding as far as it goes."""
        way = self.way(number)
        if way[0] == "turns":
            above = self.levels.pop()
            _, under, place, _, _ = self.way(above)
            if way[3]:
                new = put_upon(self.results, under, place, way[3][0], way[4])
            else:
                new = ("stays", under, place, way[4])
            self.settle(self.line(new, ("ways", above, number)))
            return
        self.levels.append(number)
        if way[0] == "above":
            self.levels.append(self.line(("stays", way[3], way[4], way[4]), ("none",)))

    def road(self):
        """The road to the state to which the steps came."""
        numbers = list(self.levels)
        if len(numbers) > 1:
            top = numbers.pop()
            way = self.way(numbers[-1])
            numbers[-1] = self.line((*way[:4], self.way(top)[3]), ("ways", numbers[-1], top))
        return tuple(self.lines), tuple(numbers)


def hand_road(program, start, run):
    """A road whose run is this one."""
    hand = HandRoad(program, start)
    for number in run:
        hand.step(number)
    return hand.road()


def is_number(thing, many):
    """Whether any value is an integer from 0 on below another one."""
    return isinstance(thing, int) and not isinstance(thing, bool) and 0 <= thing < many


def plain_line_holds(program, forms, lines, at):
    """Whether a line is one, by the words of the document."""
    line = lines[at]
    if not isinstance(line, tuple) or len(line) != 2 or not isinstance(line[1], tuple) or not in_forms(line[0], forms):
        return False
    way, why = line
    results = results_of(program.book.rules)
    if why == ("none",):
        return way[0] == "stays" and way[2] == way[3]
    if len(why) != 3 or not is_number(why[1], at):
        return False
    one = lines[why[1]][0]
    if why[0] == "step" and is_number(why[2], len(program.steps)) and one[0] == "stays":
        place, looks, entry, to = program.steps[why[2]]
        if place != one[3] or (looks and one[1] not in looks):
            return False
        return way == (put_upon(results, one[1], one[2], entry, to) if entry else ("stays", one[1], one[2], to))
    if why[0] == "ways" and is_number(why[2], at) and one[0] == "above":
        two = lines[why[2]][0]
        if two[0] == "above" or (two[1], two[2]) != (one[3], one[4]):
            return False
        if two[0] == "stays":
            return way == (*one[:4], two[3])
        if not two[3]:
            return way == ("stays", one[1], one[2], two[4])
        return way == put_upon(results, one[1], one[2], two[3][0], two[4])
    return False


def in_forms(thing, forms):
    """Whether any value is one of the forms; True and 1 are told apart."""
    return any(thing == form and repr(thing) == repr(form) for form in forms.get(repr(thing), ()))


def forms_of(program):
    """All forms of ways, to look them up."""
    return {repr(form): [form] for form in all_forms(program)}


def plain_road_holds(program, place, log, thing, forms=None):
    """Whether any value is a road to a state, by the words of the document."""
    forms = forms_of(program) if forms is None else forms
    if not isinstance(thing, tuple) or len(thing) != 2 or not all(isinstance(part, tuple) for part in thing):
        return False
    lines, numbers = thing
    if not all(plain_line_holds(program, forms, lines, at) for at in range(len(lines))):
        return False
    if not all(is_number(number, len(lines)) for number in numbers):
        return False
    ways = [lines[number][0] for number in numbers]
    if not log:
        return [way[:2] + way[3:] for way in ways] == [("stays", "", place)] and ways[0][2] in program.starts
    at, last = set(program.starts), ""
    for way, entry in zip(ways, log):
        if way[0] != "above" or way[1] != last or way[2] not in at or way[3] != entry:
            return False
        at, last = {way[4]}, entry
    return len(ways) == len(log) and at == {place}


def plain_end_of(program, place, log, run):
    """The state to which a run comes, or None if a step does not go."""
    for number in run:
        behind = plain_after(program, place, log)
        if number not in behind:
            return None
        place, log = behind[number]
    return place, log


def fewest_steps(program, many):
    """For each state to which runs of at most so many steps come, the fewest steps."""
    level = [(place, ()) for place in program.starts]
    found = {state: 0 for state in level}
    for steps in range(1, many + 1):
        later = {state for place, log in level for state in plain_after(program, place, log).values()}
        level = [state for state in later if state not in found]
        found.update({state: steps for state in level})
    return found


def calling(counts):
    """A program in which each procedure calls the one below it so many times, one to three, and how long it takes.

    The procedure of a place leaves a mark on the log that tells how many calls there are still to come; the marks of
    one procedure are abc, those of the next one def. The only end is the last place, with the log ().
    """
    bottom = len(counts)
    steps = []
    for place, count in enumerate(counts):
        own, others = ("abc", "def") if place % 2 == 0 else ("def", "abc")
        begin = ("",) if place == 0 else tuple(others)
        steps.append((place, begin, own[count - 1], place + 1))
        steps.append((place, (own[1], own[2]), own[2], place + 1))
        steps.append((place, (own[0],), own[2], place - 1 if place else bottom))
    steps.append((bottom, tuple("abc" if bottom % 2 else "def"), "", bottom - 1))
    length = 1
    for count in reversed(counts):
        length = count * (length + 1) + 1
    return Program(MARKS, bottom + 1, (0,), (bottom,), *steps), length


def forced_run(program, many):
    """The first steps of a run in which just one step goes each time, as long as one goes."""
    place, log, run = program.starts[0], (), []
    while len(run) < many:
        numbers = program.goes(place, log)
        if not numbers:
            break
        assert len(numbers) == 1
        run.append(numbers[0])
        place, log = program.after(place, log, numbers[0])
    return tuple(run), (place, log)
