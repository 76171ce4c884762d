"""Tops: what stands upon a log while runs go on, and how runs work their way down into the log.

A top upon a log is a pair (x, p) of an entry, or "", and a place: it tells the state with this place and the net of
the log with x behind it. Each top has a number, so that a set of tops is one integer.
"""

from logfolds.bits import gathered, mask_of, turned_about
from logfolds.ways import ways_of


def shifts_of(program):
    """For each entry, and for "", the number of the top with it and place 0."""
    return {x: k * program.places for k, x in enumerate(("", *program.book.entries))}


def turns_of(program, shifts):
    """For each entry and place, the set of the tops to which the entry, as the last one, can be turned from there."""
    found = {}
    for way in ways_of(program):
        if way[0] == "turns":
            _, under, place, turned, to = way
            top = shifts[turned[0] if turned else ""] + to
            found[(under, place)] = found.get((under, place), 0) | 1 << top
    return found


class Moves:
    """What becomes of the tops upon a log with some last entry, or "" for the log ().

    A top moves on the spot, while the last entry stays; or it moves down: the last entry is gone or is another one,
    and there is a top upon the log without it.
    """

    def __init__(self, program, last, shifts, turns):
        self._last = last
        self._many = program.places * len(shifts)
        # For each top, what it comes to at once: on the spot, and down. Those that fold with the last entry do so.
        self._near = []
        self._exits = []
        for x in shifts:
            result = program.book.result(last, x)
            for place in range(program.places):
                self._put(x, place, result, shifts, turns)
        reached = [self._reached(top) for top in range(self._many)]
        self._down = [gathered(self._exits, mask) for mask in reached]
        self._up = turned_about(self._down, self._many)
        self._back = turned_about(reached, self._many)

    def _put(self, x, place, result, shifts, turns):
        """Tells what the next top comes to at once; there may be a rule with this result for it."""
        near = 0
        below = 0
        if x == "":
            below = turns.get((self._last, place), 0)
        elif result is None:
            near = turns.get((x, place), 0)
        elif result == (self._last,):
            near = 1 << shifts[""] + place
        else:
            below = 1 << shifts[result[0] if result else ""] + place
        self._near.append(near)
        self._exits.append(below)

    def _reached(self, top):
        """The set of the tops to which a top comes on the spot, with itself."""
        found = 1 << top
        waiting = found
        while waiting:
            more = gathered(self._near, waiting)
            waiting = more & ~found
            found = found | more
        return found

    def down(self, mask):
        """The tops upon the log without its last entry to which some tops come, the last entry being turned."""
        return gathered(self._down, mask)

    def up(self, mask):
        """The tops from which one comes down to some of these tops."""
        return gathered(self._up, mask)

    def back(self, mask):
        """The tops from which one comes on the spot to some of these, with these."""
        return gathered(self._back, mask)


class Tops:
    """The tops of a program, with what becomes of them upon each last entry."""

    def __init__(self, program):
        self.shifts = shifts_of(program)
        turns = turns_of(program, self.shifts)
        self.moves = {last: Moves(program, last, self.shifts, turns) for last in self.shifts}

    def resting(self, places):
        """The set of the tops with "" and one of these places."""
        return mask_of(places)

    def asked_from(self, places):
        """All tops to which those with "" and one of these places come, upon logs of any entries."""
        found = self.resting(places)
        waiting = found
        while waiting:
            more = 0
            for moves in self.moves.values():
                more = more | moves.down(waiting)
            waiting = more & ~found
            found = found | more
        return found


def tops_of(program):
    """The tops of a program."""
    known = program.worked_out
    if "tops" not in known:
        known["tops"] = Tops(program)
    return known["tops"]
