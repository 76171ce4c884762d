"""Chains of ways: which logs stand at which places of a program."""

from logfolds.ways import ways_of


class Chains:
    """The ways by which logs stand, one entry upon the other.

    The places at which a log stands tell, with its last entry, at which it stands with an entry more.
    """

    def __init__(self, program):
        starts = {place: True for place in program.starts}
        below = []
        self._entries = program.book.entries
        self._above = {}
        for way in ways_of(program):
            if way[0] == "above":
                self._above.setdefault(way[1:4], []).append(way[4])
            elif way[0] == "stays" and way[1] == "" and way[2] in starts:
                below.append(way[3])
        # The places at which the log () stands: what can be put above it from a start can be so from them.
        self.below = tuple(sorted(set(below)))

    def places_above(self, last, places, entry):
        """Where a log stands with an entry more; it has this last entry, or "", and stands at these places."""
        return tuple(sorted({to for place in places for to in self._above.get((last, place, entry), ())}))

    def places_behind(self, last, places, row):
        """Where such a log stands with a row more."""
        for entry in row:
            places = self.places_above(last, places, entry)
            last = entry
        return places

    def kinds(self):
        """All kinds of logs that stand, as a list of pairs (places, moves); the moves are pairs (entry, kind).

        The first one is that of (); it is there even if it stands nowhere.
        """
        kinds = [("", self.below)]
        numbers = {kinds[0]: 0}
        found = []
        while len(found) < len(kinds):
            last, places = kinds[len(found)]
            moves = []
            for entry in self._entries:
                kind = (entry, self.places_above(last, places, entry))
                if kind[1] == ():
                    continue
                if kind not in numbers:
                    numbers[kind] = len(kinds)
                    kinds.append(kind)
                moves.append((entry, numbers[kind]))
            found.append((places, tuple(moves)))
        return found

    def nodes_above(self, node):
        """The nodes behind a node: pairs of a last entry, or "", and a place where a log with it stands."""
        return [(entry, to) for entry in self._entries for to in self._above.get((*node, entry), ())]

    def graph(self):
        """All nodes, each with those behind it; a walk from a node with "" is a log that stands at the last place."""
        waiting = [("", place) for place in self.below]
        found = {}
        while waiting:
            node = waiting.pop()
            if node not in found:
                found[node] = self.nodes_above(node)
                waiting.extend(found[node])
        return found
