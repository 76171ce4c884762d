"""The logs that stand and those that are left, by all runs of a program at once; and how long they grow."""

from logfolds.chains import chains_of, place_rows
from logfolds.errors import NoLog
from logfolds.logsets import LogSet
from logfolds.machines import table_of
from logfolds.steps import is_place
from logfolds.walks import longest_walk


def standing_table(program, places):
    """The table of the set of the logs that stand at some of these places."""
    known = program.worked_out
    key = ("standing", places)
    if key not in known:
        wanted = {place: True for place in places}
        rows = [(any([place in wanted for place in stood]), moves) for stood, moves in place_rows(program)]
        known[key] = table_of(rows, program.book.entries)
    return known[key]


def standing_at(program, places):
    """The set of the logs that stand at some of these places."""
    return LogSet(program.book, standing_table(program, places))


def standing(program, place):
    """The set of the logs that stand at a place."""
    return standing_at(program, (place,))


def left(program):
    """The set of the logs that are left: they stand at an end."""
    return standing_at(program, program.ends)


def stands(program, place, log):
    """Whether a net stands at a place."""
    return place in chains_of(program).places_of(log)


def most(program):
    """The greatest length of a log that stands at any place, or None if there is no greatest one."""
    if program.starts == ():
        raise NoLog()
    return longest_walk(chains_of(program).graph())


def rows_from(graph, nodes):
    """For each node to which one comes from some nodes by one move or more, a shortest row that leads there."""
    found = {}
    waiting = [(node, ()) for node in nodes]
    used = 0
    while used < len(waiting):
        node, row = waiting[used]
        used = used + 1
        for other in graph[node]:
            if other not in found:
                found[other] = row + (other[0],)
                waiting.append((other, found[other]))
    return found


def growth_of(program):
    """Any growth of a program, or None."""
    chains = chains_of(program)
    graph = chains.graph()
    reached = rows_from(graph, [("", place) for place in chains.below])
    for node, log in reached.items():
        rings = rows_from(graph, [node])
        if node in rings:
            return node[1], log, rings[node]
    return None


def is_growing_net(book, log, row):
    """Whether two values are a net and a row, not empty, that can be put behind it any number of times in a net."""
    if not isinstance(log, tuple) or not isinstance(row, tuple) or row == ():
        return False
    # Whatever stands side by side when the row comes more often does so already when it comes twice.
    return book.is_net(log + row + row)


def stands_always(chains, place, log, row):
    """Whether a log stands at a place, with a row behind it any number of times."""
    stood = chains.places_of(log)
    if place not in stood:
        return False
    stood = chains.places_behind(log[-1] if log else "", stood, row)
    further = {}
    seen = {}
    while place in stood and stood not in seen:
        seen[stood] = True
        for other in stood:
            if other not in further:
                further[other] = chains.places_behind(row[-1], (other,), row)
        stood = tuple(sorted({to for other in stood for to in further[other]}))
    # The places at which it stands come again sooner or later, and then all goes on as before.
    return place in stood


def growth_holds(program, thing):
    """Whether any value is a growth of a program."""
    if not isinstance(thing, tuple) or len(thing) != 3:
        return False
    place, log, row = thing
    if not is_place(place, program.places) or not is_growing_net(program.book, log, row):
        return False
    return stands_always(chains_of(program), place, log, row)
