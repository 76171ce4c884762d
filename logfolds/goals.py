"""Goals: sets of logs with which runs shall end, and from where runs end so without touching the last entry."""

from logfolds.bits import gathered
from logfolds.machines import maps_of, nets_table
from logfolds.tops import tops_of
from logfolds.ways import ways_of

# For how many goals a program keeps what was worked out.
MOST_KEPT = 20


def goal_table(program, goal):
    """The table of a goal, which is all nets for None."""
    return nets_table(program.book) if goal is None else goal.table


class Goal:
    """A table, and the pairs (state, u) such that a row with the last entry u, or "" for (), leads to the state."""

    def __init__(self, table):
        self._maps = maps_of(table)
        self.first = 0 if table else None
        # For each pair, those to which one comes from it by one entry, and those from which one comes to it so.
        self.onward = {}
        self.before = {}
        waiting = [(0, "")] if table else []
        while waiting:
            pair = waiting.pop()
            if pair not in self.onward:
                self.onward[pair] = [(to, entry) for entry, to in self._maps[pair[0]][1].items()]
                waiting.extend(self.onward[pair])
        for pair, others in self.onward.items():
            for other in others:
                self.before.setdefault(other, []).append(pair)

    def does_accept(self, state):
        """Whether rows that lead to this state, or for None to none, are in the table."""
        return self._maps[state][0]

    def state_behind(self, state, entry):
        """The state behind a state, or for None no state, by an entry; None if there is none."""
        return self._maps[state][1].get(entry)


def end_masks(program):
    """For each entry, and "", the places from which, with it unchanged as the last one, a run comes to an end."""
    ends = {place: True for place in program.ends}
    found = {under: 0 for under in ("", *program.book.entries)}
    for way in ways_of(program):
        if way[0] == "stays" and way[3] in ends:
            found[way[1]] = found[way[1]] | 1 << way[2]
    return found


def above_masks(program):
    """For each u and y, and each place q, the places p with a way ("above", u, p, y, q)."""
    found = {}
    for way in ways_of(program):
        if way[0] == "above":
            _, under, place, entry, to = way
            masks = found.setdefault((under, entry), [0] * program.places)
            masks[to] = masks[to] | 1 << place
    return found


def good_places(program, goal):
    """For each pair of a goal, the places from which a run ends with a log of it, the last entry being unchanged."""
    ends = end_masks(program)
    above = above_masks(program)
    found = {pair: ends[pair[1]] if goal.does_accept(pair[0]) else 0 for pair in goal.onward}
    waiting = [pair for pair in found if found[pair]]
    while waiting:
        pair = waiting.pop()
        for other in goal.before.get(pair, ()):
            masks = above.get((other[1], pair[1]))
            if masks is not None:
                more = found[other] | gathered(masks, found[pair])
                if more != found[other]:
                    found[other] = more
                    waiting.append(other)
    return found


class Descents:
    """For each log, from which tops upon it a run comes to an end with a log of the goal.

    A walk tells this for a log by (last entry or "", state of the goal or None, set of these tops), from one entry
    to the next one.
    """

    def __init__(self, program, goal):
        self._tops = tops_of(program)
        self._goal = goal
        self._good = good_places(program, goal)
        # The tops from which runs end so without ever coming down, by the last entry and the state of the goal.
        self._above = {}

    def _good_tops(self, last, state):
        """The tops that can stay for good, such that a run ends with a log of the goal."""
        if state is None:
            return 0
        found = self._good[(state, last)]
        for to, entry in self._goal.onward[(state, last)]:
            found = found | self._good[(to, entry)] << self._tops.shifts[entry]
        return found

    def _walked(self, last, state, below, asked):
        """What is told behind a last entry, of the tops that are asked for; below are those without this entry."""
        moves = self._tops.moves[last]
        key = (last, state)
        if key not in self._above:
            self._above[key] = moves.back(self._good_tops(last, state))
        return last, state, (moves.up(below) | self._above[key]) & asked

    def begun(self, asked):
        """What is told of the log ()."""
        return self._walked("", self._goal.first, 0, asked)

    def behind(self, told, entry, asked):
        """What is told of a log with an entry more."""
        _, state, mask = told
        return self._walked(entry, self._goal.state_behind(state, entry), mask, asked)


class GoalWork:
    """What was worked out for a program and a goal."""

    def __init__(self, program, table):
        self.goal = Goal(table)
        self.descents = Descents(program, self.goal)
        # Tables and such, by the words of those who keep them here.
        self.worked_out = {}


def goal_work(program, goal):
    """What was worked out for a program and a goal, a set of logs or None for all nets."""
    kept = program.worked_out.setdefault("goals", {})
    table = goal_table(program, goal)
    if table not in kept:
        # A program may be asked for any number of goals, so not all are kept for ever.
        if len(kept) >= MOST_KEPT:
            kept.clear()
        kept[table] = GoalWork(program, table)
    return kept[table]
