"""Lines: for each way of a program the fewest steps with which it is had, and how it is had so."""

from heapq import heappop, heappush

from logfolds.ways import first_ways, is_let, way_by_step, way_by_ways


class Lines:
    """The ways of a program, those with the fewest steps first; each is had from ways that are told before it.

    A way that is put together has no fewer steps than its parts. So of all ways that are offered the one with the
    fewest steps cannot be had with fewer (as Knuth has shown).
    """

    def __init__(self, program):
        self._book = program.book
        self._steps_from = {}
        for number, step in enumerate(program.steps):
            self._steps_from.setdefault(step[0], []).append((number, step))
        # For each way, in the order in which they are settled, the fewest steps.
        self.fewest = {}
        # For each way that was offered, the fewest steps so far, and of which ways and which step it is had.
        self._offers = {}
        self._queue = []
        # By an entry, or "", and a place: the ways "above" that end there, and the others that begin there.
        self._above = {}
        self._upon = {}
        # The ways "above" by where they begin: an entry, or "", a place, and the entry that they write.
        self.above_from = {}
        for way in first_ways(program):
            self._offer(way, 0, (), None)
        while self._queue:
            many, way = heappop(self._queue)
            if way not in self.fewest:
                self.fewest[way] = many
                self._use(way, many)

    def _offer(self, way, many, parts, number):
        """Offers a way with so many steps, had of other ways and perhaps the step of this number."""
        if way not in self._offers or many < self._offers[way][0]:
            self._offers[way] = (many, parts, number)
            heappush(self._queue, (many, way))

    def _use(self, way, many):
        """Offers what is had from a way, and from it and those that were settled before."""
        if way[0] == "above":
            self._above.setdefault(way[3:], []).append(way)
            self.above_from.setdefault(way[1:4], []).append(way)
            for upon in self._upon.get(way[3:], ()):
                self._offer(way_by_ways(self._book, way, upon), many + self.fewest[upon], (way, upon), None)
            return
        if way[0] == "stays":
            self._go_on(way, many)
        self._upon.setdefault(way[1:3], []).append(way)
        for above in self._above.get(way[1:3], ()):
            self._offer(way_by_ways(self._book, above, way), self.fewest[above] + many, (above, way), None)

    def _go_on(self, way, many):
        """Offers what is had from a way "stays" by a step."""
        for number, step in self._steps_from.get(way[3], ()):
            if is_let(step, way[1]):
                self._offer(way_by_step(self._book, way, step), many + 1, (way,), number)

    def _needed(self, ways):
        """These ways and all of which they are had, each once, those first of which others are had."""
        needed = {}
        waiting = list(ways)
        while waiting:
            way = waiting.pop()
            if way not in needed:
                needed[way] = True
                waiting.extend(self._offers[way][1])
        return [way for way in self.fewest if way in needed]

    def told(self, ways):
        """A tuple of lines with different ways that tell these ways, and the numbers of their lines."""
        numbers = {}
        lines = []
        for way in self._needed(ways):
            _, parts, number = self._offers[way]
            places = [numbers[part] for part in parts]
            why = ("none",)
            if number is not None:
                why = ("step", places[0], number)
            elif parts:
                why = ("ways", places[0], places[1])
            numbers[way] = len(lines)
            lines.append((way, why))
        return tuple(lines), tuple([numbers[way] for way in ways])


def lines_of(program):
    """The lines of a program."""
    known = program.worked_out
    if "lines" not in known:
        known["lines"] = Lines(program)
    return known["lines"]
