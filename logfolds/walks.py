"""Walks through the states of a machine: the least, the longest, how many there are, and all of them."""


def least_row(rows):
    """The least row that a machine accepts whose states are numbered in the order in which they are met, or None."""
    sources = {0: None}
    for state, (is_in, moves) in enumerate(rows):
        if is_in:
            return row_to(sources, state)
        for entry, to in moves:
            # The state that is met first is the one to which the least row leads.
            sources.setdefault(to, (entry, state))
    return None


def row_to(sources, state):
    """The row that leads to a state; the sources tell for each state the last entry and the state before it."""
    found = []
    while sources[state] is not None:
        entry, state = sources[state]
        found.append(entry)
    return tuple(reversed(found))


def longest_walk(followers):
    """The greatest number of moves, one after the other, in a graph, or None if there is no greatest one.

    The followers tell for each node to which nodes one comes from it by one move.
    """
    pending = {node: 0 for node in followers}
    for nodes in followers.values():
        for node in nodes:
            pending[node] = pending[node] + 1
    ready = [node for node in followers if pending[node] == 0]
    lengths = {node: 0 for node in ready}
    done = 0
    while ready:
        node = ready.pop()
        done = done + 1
        for other in followers[node]:
            lengths[other] = max(lengths.get(other, 0), lengths[node] + 1)
            pending[other] = pending[other] - 1
            if pending[other] == 0:
                ready.append(other)
    # What is on a ring, or behind one, never becomes ready.
    return max(list(lengths.values())) if done == len(followers) else None


def single_jumps(rows):
    """For each state, the states to which one comes by one move, with the number of such moves."""
    found = []
    for _, moves in rows:
        jumps = {}
        for _, to in moves:
            jumps[to] = jumps.get(to, 0) + 1
        found.append(jumps)
    return found


def doubled_jumps(jumps):
    """The same for two jumps, one after the other."""
    found = []
    for first in jumps:
        both = {}
        for middle, many in first.items():
            for to, more in jumps[middle].items():
                both[to] = both.get(to, 0) + many * more
        found.append(both)
    return found


def work_of(jumps):
    """How much work it is to make all these jumps once."""
    return sum([len(first) + 1 for first in jumps])


def doubling_work(jumps):
    """How much work it is to double these jumps."""
    return sum([len(jumps[middle]) + 1 for first in jumps for middle in first])


class Counts:
    """How many rows of each length a machine accepts. What was counted once is kept."""

    def __init__(self, rows):
        # Jumps by 1, 2, 4 .. entries, as far as they were made.
        self._jumps = [single_jumps(rows)]
        self._ends = [1 if is_in else 0 for is_in, _ in rows]
        # How many rows of the last length that was counted lead from each state to one that accepts.
        self._length = 0
        self._rests = self._ends
        self._known = {0: self._ends[0]}

    def of_length(self, length):
        """How many rows of this length there are."""
        if length not in self._known:
            if length < self._length:
                self._length = 0
                self._rests = self._ends
            self._go_on(length - self._length)
        return self._known[length]

    def _go_on(self, rest):
        """Counts on from the last length, by so many entries."""
        for k in reversed(range(self._doublings_for(rest) + 1)):
            while rest >> k > 0:
                rests = self._rests
                self._rests = [
                    sum([many * rests[to] for to, many in jumps.items()]) for jumps in self._jumps[k]]
                self._length = self._length + (1 << k)
                self._known[self._length] = self._rests[0]
                rest = rest - (1 << k)

    def _doublings_for(self, length):
        """How often it is best to double jumps for a walk of this length; the jumps are made."""
        least_work = length * work_of(self._jumps[0])
        best = 0
        k = 1
        while length >> k > 0:
            if k == len(self._jumps):
                if doubling_work(self._jumps[-1]) > least_work:
                    break
                self._jumps.append(doubled_jumps(self._jumps[-1]))
            work = (length >> k) * work_of(self._jumps[k])
            if work < least_work:
                least_work = work
                best = k
            k = k + 1
        return best


def next_moves(rows, ables):
    """For each state, its moves to the states that are able."""
    return [tuple([move for move in moves if ables[move[1]]]) for _, moves in rows]


def rows_along(levels):
    """Yields, ascending, the rows that are as long as there are levels; there is such a row.

    A level has for each state the moves behind which just as many can follow as there are levels before it.
    """
    row = []
    waiting = [(0, None, 0)]
    while waiting:
        many, entry, state = waiting.pop()
        del row[many:]
        if entry is not None:
            row.append(entry)
        many = len(levels) - len(row)
        for level in reversed(range(many)):
            moves = levels[level][state]
            if len(moves) > 1:
                waiting.extend([(len(row), *move) for move in reversed(moves[1:])])
            entry, state = moves[0]
            row.append(entry)
        yield tuple(row)


def all_rows(rows, most):
    """Yields the rows that a machine accepts, by their lengths up to the greatest one, or endlessly for None."""
    ables = tuple([is_in for is_in, _ in rows])
    known = {}
    levels = []
    while most is None or len(levels) <= most:
        if ables[0]:
            for row in rows_along(levels):
                yield row
        # The levels come again after some time, and are not made anew then.
        if ables not in known:
            known[ables] = next_moves(rows, ables)
        levels.append(known[ables])
        ables = tuple([moves != () for moves in levels[-1]])
