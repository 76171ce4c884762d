"""The shortest runs from a state to an end with a log of a goal: how many steps they have, and of which ways."""

from heapq import heappop, heappush

from logfolds.lines import lines_of


class Finishes:
    """The fewest steps from a place to an end with a log of the goal, with the last entry unchanged.

    A node is (state of the goal, last entry or "", place).
    """

    def __init__(self, program, goal):
        self._lines = lines_of(program)
        self._goal = goal
        self.fewest = {}
        # For each node that was offered, the fewest steps so far and the first way of a run with so many.
        self._offers = {}
        self._queue = []
        ends = {place: True for place in program.ends}
        endings = {}
        # The ways "above" by u, y and the place where they end.
        self._above = {}
        for way in self._lines.fewest:
            if way[0] == "above":
                self._above.setdefault((way[1], way[3], way[4]), []).append(way)
            elif way[0] == "stays" and way[3] in ends:
                endings.setdefault(way[1], []).append(way)
        for state, under in goal.onward:
            if goal.does_accept(state):
                for way in endings.get(under, ()):
                    self._offer(state, way, 0)
        while self._queue:
            many, node = heappop(self._queue)
            if node not in self.fewest:
                self.fewest[node] = many
                self._go_back(node, many)

    def _offer(self, state, way, more):
        """Offers a run that begins with a way, with so many steps behind it, where the goal is in this state."""
        node = (state, way[1], way[2])
        many = self._lines.fewest[way] + more
        if node not in self._offers or many < self._offers[node][0]:
            self._offers[node] = (many, way)
            heappush(self._queue, (many, node))

    def _go_back(self, node, many):
        """Offers the runs that come to a node by an entry more."""
        state, entry, place = node
        for before, under in self._goal.before.get((state, entry), ()):
            for way in self._above.get((under, entry, place), ()):
                self._offer(before, way, many)

    def ways_from(self, node):
        """The ways of a run from a node that has the fewest steps, in a list."""
        state, _, _ = node
        ways = []
        while not ways or ways[-1][0] == "above":
            _, way = self._offers[node]
            ways.append(way)
            if way[0] == "above":
                state = self._goal.state_behind(state, way[3])
                node = (state, way[3], way[4])
        return ways


class Search:
    """A search for the shortest run from a state to an end with a log of the goal, down into the log first.

    A spot is (k, x, place): the place, and the net of the first k entries of the log with x behind them, where x is
    "" or does not fold with these.
    """

    def __init__(self, program, goal, finishes, place, log):
        self._book = program.book
        self._log = log
        self._finishes = finishes
        self._fewest = lines_of(program).fewest
        self._turns = turns_by_top(program)
        self._goal = goal
        self._states = [goal.first]
        for entry in log:
            self._states.append(goal.state_behind(self._states[-1], entry))
        # How many steps lead to each spot, with the spot before it and the way between them.
        self._offers = {}
        self._queue = []
        # The fewest steps in all, and the spot from which on nothing beneath its last entry is touched.
        self.best = None
        self._spot = None
        self._offer((len(log), "", place), 0, None, None)
        self._seek()

    def _offer(self, spot, many, before, way):
        """Offers a spot to which one comes by so many steps."""
        if spot not in self._offers or many < self._offers[spot][0]:
            self._offers[spot] = (many, before, way)
            heappush(self._queue, (many, spot))

    def _seek(self):
        """Goes on from the spots with the fewest steps first, until none can be better than the best."""
        done = {}
        while self._queue:
            many, spot = heappop(self._queue)
            if self.best is not None and self.best <= many:
                return
            if spot in done:
                continue
            done[spot] = True
            more = self._finishes.fewest.get(self._node(spot))
            if more is not None and (self.best is None or many + more < self.best):
                self.best = many + more
                self._spot = spot
            for way in self._turns.get((self._top(spot), spot[2]), ()):
                to = self._folded(spot, way)
                self._offer(to, many + self._fewest[way], spot, way)

    def _top(self, spot):
        """The last entry of the log of a spot, or ""."""
        k, x, _ = spot
        if x == "" and k > 0:
            return self._log[k - 1]
        return x

    def _node(self, spot):
        """The node of a spot whose last entry stays, or one that is none."""
        k, x, place = spot
        state = self._states[k]
        if x != "":
            state = self._goal.state_behind(state, x)
        return state, self._top(spot), place

    def _folded(self, spot, way):
        """The spot to which a way that turns the last entry of a spot leads."""
        k, x, _ = spot
        if x == "":
            k = k - 1
        rest = way[3]
        while rest != () and k > 0:
            result = self._book.result(self._log[k - 1], rest[0])
            if result is None:
                break
            k = k - 1
            rest = result
        return k, rest[0] if rest else "", way[4]

    def ways(self):
        """The ways of the run that was found, one after the other."""
        found = []
        spot = self._spot
        while spot is not None:
            _, before, way = self._offers[spot]
            if way is not None:
                found.append(way)
            spot = before
        return list(reversed(found)) + self._finishes.ways_from(self._node(self._spot))


def turns_by_top(program):
    """The ways "turns" by the entry and the place where they begin."""
    known = program.worked_out
    if "turns" not in known:
        found = {}
        for way in lines_of(program).fewest:
            if way[0] == "turns":
                found.setdefault(way[1:3], []).append(way)
        known["turns"] = found
    return known["turns"]
