"""Roads: short tellings of shortest runs to a state, however long they are; and what their runs are."""

from logfolds.errors import NoRoad, NothingThere, TooLong
from logfolds.lines import lines_of
from logfolds.runs import lengths_of, run_told, step_told_at
from logfolds.values import is_integer
from logfolds.ways import is_let, is_way, way_by_step, way_by_ways


def ways_onward(lines, last, place, entry):
    """The ways by which one entry more comes to stand on a log with this last entry, or "", from a place."""
    return lines.above_from.get((last, place, entry), ())


def levels_of(lines, starts, log):
    """For the log () and each beginning of the log a dict: for each place where a chain with it ends, the best one.

    That is how many steps it has, its last way and the place at which that begins.
    """
    levels = [{start: (0, None, None) for start in starts}]
    last = ""
    for entry in log:
        level = {}
        for place, (many, _, _) in levels[-1].items():
            for way in ways_onward(lines, last, place, entry):
                total = many + lines.fewest[way]
                if way[4] not in level or total < level[way[4]][0]:
                    level[way[4]] = (total, way, place)
        levels.append(level)
        last = entry
    return levels


def best_chain(program, place, log):
    """The ways of a chain to a state with the fewest steps, or None."""
    lines = lines_of(program)
    if log == ():
        ways = [("stays", "", start, place) for start in program.starts]
        found = [(lines.fewest[way], way) for way in ways if way in lines.fewest]
        return [min(found)[1]] if found else None
    levels = levels_of(lines, program.starts, log)
    if place not in levels[-1]:
        return None
    ways = []
    for level in reversed(levels[1:]):
        _, way, place = level[place]
        ways.append(way)
    return list(reversed(ways))


def road(program, place, log):
    """Any road to a state whose length is the least of all, and whose lines have different ways."""
    ways = best_chain(program, place, log)
    if ways is None:
        raise NoRoad()
    return lines_of(program).told(ways)


def is_number_below(thing, many):
    """Whether any value is an integer from 0 on, and below another one."""
    return is_integer(thing) and 0 <= thing < many


def way_by_line(program, lines, at):
    """The way that the why of a line gives by those of earlier lines, or None; the why is a tuple of any values."""
    way, why = lines[at]
    if why == ("none",):
        return ("stays", way[1], way[2], way[2])
    if len(why) != 3 or not is_number_below(why[1], at):
        return None
    word, first, second = why
    earlier = lines[first][0]
    if word == "step":
        if earlier[0] != "stays" or not is_number_below(second, len(program.steps)):
            return None
        step = program.steps[second]
        if step[0] != earlier[3] or not is_let(step, earlier[1]):
            return None
        return way_by_step(program.book, earlier, step)
    if word != "ways" or not is_number_below(second, at):
        return None
    upon = lines[second][0]
    if earlier[0] != "above" or upon[0] == "above" or earlier[3:] != upon[1:3]:
        return None
    return way_by_ways(program.book, earlier, upon)


def is_line_form(program, thing):
    """Whether any value is a pair of a way and a tuple."""
    if not isinstance(thing, tuple) or len(thing) != 2:
        return False
    return is_way(program, thing[0]) and isinstance(thing[1], tuple)


def are_lines(program, thing):
    """Whether any value is a tuple of lines, each had from earlier ones as it tells."""
    if not isinstance(thing, tuple) or not all([is_line_form(program, line) for line in thing]):
        return False
    return all([way_by_line(program, thing, at) == thing[at][0] for at in range(len(thing))])


def is_chain(program, place, log, ways):
    """Whether ways, one after the other, are a chain to a state."""
    if log == ():
        return len(ways) == 1 and ways[0][:2] == ("stays", "") and ways[0][2] in program.starts and ways[0][3] == place
    if len(ways) != len(log):
        return False
    last = ""
    at = None
    for way, entry in zip(ways, log):
        if way[0] != "above" or way[1] != last or way[3] != entry:
            return False
        if way[2] != at and (at is not None or way[2] not in program.starts):
            return False
        last = entry
        at = way[4]
    return at == place


def road_holds(program, place, log, thing):
    """Whether any value is a road to a state, of whatever length."""
    if not isinstance(thing, tuple) or len(thing) != 2:
        return False
    lines, numbers = thing
    if not are_lines(program, lines) or not isinstance(numbers, tuple):
        return False
    if not all([is_number_below(number, len(lines)) for number in numbers]):
        return False
    return is_chain(program, place, log, [lines[number][0] for number in numbers])


def length_of(road):
    """How many steps the run of a road has."""
    lines, numbers = road
    lengths = lengths_of(lines)
    return sum([lengths[number] for number in numbers])


def step_at(road, index):
    """The number of the step with this index in the run of a road."""
    lines, numbers = road
    if index < 0:
        raise NothingThere()
    lengths = lengths_of(lines)
    for number in numbers:
        if index < lengths[number]:
            return step_told_at(lines, lengths, number, index)
        index = index - lengths[number]
    raise NothingThere()


def run_of(road, *, most=1000):
    """The run of a road, if it has no more than so many steps."""
    length = length_of(road)
    if length > most:
        raise TooLong(length)
    lines, numbers = road
    return run_told(lines, numbers)
