"""Chains of ways: which logs stand at which places of a program."""

from logfolds.machines import merged_rows
from logfolds.met import Met
from logfolds.ways import is_let, ways_of


class Chains:
    """The ways by which logs stand, one entry upon the other.

    The places at which a log stands tell, with its last entry, at which it stands with an entry more.
    """

    def __init__(self, program, ways):
        starts = {place: True for place in program.starts}
        below = []
        self._entries = program.book.entries
        self._above = {}
        for way in ways:
            if way[0] == "above":
                self._above.setdefault(way[1:4], []).append(way[4])
            elif way[0] == "stays" and way[1] == "" and way[2] in starts:
                below.append(way[3])
        # The places at which the log () stands: what can be put above it from a start can be so from them.
        self.below = tuple(sorted(set(below)))
        self._starts = program.starts

    def places_above(self, last, places, entry):
        """Where a log stands with an entry more; it has this last entry, or "", and stands at these places."""
        return tuple(sorted({to for place in places for to in self._above.get((last, place, entry), ())}))

    def places_behind(self, last, places, row):
        """Where such a log stands with a row more."""
        for entry in row:
            places = self.places_above(last, places, entry)
            last = entry
        return places

    def places_of(self, log):
        """The places to which there is a chain of the ways with this log."""
        # A closed set need not have a way upon the ground from each place of below, so chains begin at the starts.
        return self.places_behind("", self._starts, log) if log else self.below

    def _likes(self, steps):
        """For each last entry, and "", the first one with which the same can stand above and the same steps go."""
        rows = {last: [] for last in ("", *self._entries)}
        for (last, place, entry), places in self._above.items():
            rows[last].append((place, entry, tuple(places)))
        firsts = {}
        found = {}
        for last in rows:
            key = (tuple(sorted(rows[last])), tuple([is_let(step, last) for step in steps]))
            found[last] = firsts.setdefault(key, last)
        return found

    def kinds(self, steps):
        """All kinds of logs that stand, as a list of (last, places, moves); the moves are pairs (entry, kind).

        The first one is that of (); it is there even if it stands nowhere. They are told in the order of their
        least logs. Of last entries that are alike for all these steps the first one stands for the others, too.
        """
        likes = self._likes(steps)
        kinds = Met((likes[""], self.below))
        found = []
        while len(found) < len(kinds.things):
            last, places = kinds.things[len(found)]
            moves = []
            for entry in self._entries:
                above = self.places_above(last, places, entry)
                if above != ():
                    moves.append((entry, kinds.number_of((likes[entry], above))))
            found.append((last, places, tuple(moves)))
        return found

    def nodes_above(self, node):
        """The nodes behind a node: pairs of a last entry, or "", and a place where a log with it stands."""
        return [(entry, to) for entry in self._entries for to in self._above.get((*node, entry), ())]

    def graph(self):
        """All nodes, each with those behind it; a walk from a node with "" is a log that stands at the last place."""
        waiting = [("", place) for place in self.below]
        found = {}
        while waiting:
            node = waiting.pop()
            if node not in found:
                found[node] = self.nodes_above(node)
                waiting.extend(found[node])
        return found


def chains_of(program):
    """The chains of the ways of a program."""
    known = program.worked_out
    if "chains" not in known:
        known["chains"] = Chains(program, ways_of(program))
    return known["chains"]


def kinds_of(program):
    """All kinds of logs that stand, as Chains.kinds tells them."""
    known = program.worked_out
    if "kinds" not in known:
        known["kinds"] = chains_of(program).kinds(program.steps)
    return known["kinds"]


def place_rows(program):
    """The rows (places, moves) of a machine that tells for each net the places at which it stands."""
    known = program.worked_out
    if "place rows" not in known:
        # Kinds with unlike last entries are often alike in all else.
        known["place rows"] = merged_rows([(places, moves) for _, places, moves in kinds_of(program)])
    return known["place rows"]
