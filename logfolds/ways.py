"""Short ways: what a run does upon one last entry, whatever is beneath it; and what closed sets of them are."""

from logfolds.steps import is_place
from logfolds.values import is_ascending


def is_under(book, thing):
    """Whether any value is an entry of the book, or "" for the ground."""
    return thing == "" or book.is_entry(thing)


def is_turned(book, under, thing):
    """Whether any value can be that to which an entry is turned: nothing, or another entry."""
    if not isinstance(thing, tuple) or len(thing) > 1 or thing == (under,):
        return False
    return all([book.is_entry(entry) for entry in thing])


def is_above(book, under, thing):
    """Whether any value is an entry that stays above what is under it."""
    return book.is_entry(thing) and book.result(under, thing) is None


def is_way(program, thing):
    """Whether any value has the form of a way."""
    if not isinstance(thing, tuple) or not 4 <= len(thing) <= 5:
        return False
    book = program.book
    kind, under, place, *middle, to = thing
    if not is_under(book, under) or not is_place(place, program.places) or not is_place(to, program.places):
        return False
    if len(middle) == 0:
        return kind == "stays"
    if kind == "turns":
        return under != "" and is_turned(book, under, middle[0])
    return kind == "above" and is_above(book, under, middle[0])


def outcome(under, place, result, to):
    """The way that a rule with this result gives, if what stands under is its first entry."""
    if result == (under,):
        return "stays", under, place, to
    return "turns", under, place, result, to


def written(book, under, place, entry, to):
    """The way that an entry gives when it is put upon what stands under."""
    result = book.result(under, entry)
    if result is None:
        return "above", under, place, entry, to
    return outcome(under, place, result, to)


def is_let(step, under):
    """Whether a step may go with this last entry, or for "" with the log ()."""
    return step[1] == () or under in step[1]


def way_by_step(book, way, step):
    """The way that is had from a way "stays" and a step that goes behind it."""
    _, under, place, _ = way
    _, _, entry, to = step
    if entry == "":
        return "stays", under, place, to
    return written(book, under, place, entry, to)


def way_by_ways(book, above, upon):
    """The way that is had from a way "above" and a way "stays" or "turns" upon its entry, from its place."""
    _, under, place, entry, _ = above
    to = upon[-1]
    if upon[0] == "stays":
        return "above", under, place, entry, to
    if upon[3] == ():
        return "stays", under, place, to
    return written(book, under, place, upon[3][0], to)


class Closing:
    """Ways, and all others that a closed set with them has: they are added until nothing is new."""

    def __init__(self, program, ways):
        self._book = program.book
        self._steps_from = {}
        for step in program.steps:
            self._steps_from.setdefault(step[0], []).append(step)
        self.found = {}
        self._waiting = []
        # By an entry, or "", and a place: the ways "above" that end there, and the others that begin there.
        self._above = {}
        self._upon = {}
        for way in ways:
            self._find(way)
        while self._waiting:
            self._use(self._waiting.pop())

    def _find(self, way):
        """Puts a way among those that are found."""
        if way not in self.found:
            self.found[way] = True
            self._waiting.append(way)

    def _use(self, way):
        """Adds what is had from a way, and from it and those that were used before."""
        if way[0] == "above":
            self._above.setdefault(way[3:], []).append(way)
            for upon in self._upon.get(way[3:], ()):
                self._find(way_by_ways(self._book, way, upon))
            return
        if way[0] == "stays":
            self._go_on(way)
        self._upon.setdefault(way[1:3], []).append(way)
        for above in self._above.get(way[1:3], ()):
            self._find(way_by_ways(self._book, above, way))

    def _go_on(self, way):
        """Adds what is had from a way "stays" by a step."""
        for step in self._steps_from.get(way[3], ()):
            if is_let(step, way[1]):
                self._find(way_by_step(self._book, way, step))


def first_ways(program):
    """The ways that do nothing, one for each place and entry, and for the ground."""
    return [("stays", under, p, p) for under in ("", *program.book.entries) for p in range(program.places)]


def ways_of(program):
    """The ascending tuple of the ways of a program: the least closed set."""
    known = program.worked_out
    if "ways" not in known:
        known["ways"] = tuple(sorted(Closing(program, first_ways(program)).found))
    return known["ways"]


def closed_holds(program, thing):
    """Whether any value is an ascending tuple of values that have the form of ways, and closed."""
    if not isinstance(thing, tuple) or not all([is_way(program, way) for way in thing]):
        return False
    if not is_ascending(thing):
        return False
    # It is closed exactly if nothing is added, neither those that do nothing nor any other.
    return len(Closing(program, [*first_ways(program), *thing]).found) == len(thing)
