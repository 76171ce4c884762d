"""Open entries: how far down runs can still change a log, over all states that stand at once.

A pair of a node (last entry, place) of the chains and a top upon the log of that node tells a run on its way down:
some entries above are gone or changed, and the logs with this last entry that stand at the place of the node are
those that can lie beneath them.
"""

from logfolds.bits import numbers_in
from logfolds.chains import chains_of
from logfolds.errors import NoLog
from logfolds.tops import tops_of
from logfolds.walks import longest_walk


def nodes_below(graph):
    """For each node of a graph of chains, the nodes behind which it stands."""
    found = {node: [] for node in graph}
    for node, others in graph.items():
        for other in others:
            found[other].append(node)
    return found


def things_below(below, moves, thing):
    """The things behind one of the graph of the ways down."""
    is_whole, node, top = thing
    if is_whole:
        return [(False, node, other) for other in numbers_in(moves[node[0]].down(1 << top))]
    return [(True, other, top) for other in below[node]]


def opening_graph(program):
    """The graph of the ways down: from (True, node, top) down to (False, node, top), and on to the nodes beneath."""
    below = nodes_below(chains_of(program).graph())
    moves = tops_of(program).moves
    found = {}
    waiting = [(True, node, node[1]) for node in below]
    while waiting:
        thing = waiting.pop()
        if thing not in found:
            found[thing] = things_below(below, moves, thing)
            waiting.extend(found[thing])
    return found


def greatest_open(program):
    """The greatest number of open entries of a state that stands, or None if there is no greatest one."""
    if program.starts == ():
        raise NoLog()
    known = program.worked_out
    if "held" not in known:
        longest = longest_walk(opening_graph(program))
        # Each entry that is opened takes two moves: out of it, and to a node beneath.
        known["held"] = None if longest is None else longest // 2
    return known["held"]


class Layers:
    """The least state with so many open entries at least; there is one. Any number below 0 is like 0.

    A layer has for each node the tops upon it to which one comes by opening just so many entries above it. Layer 0 is
    that of the states themselves.
    """

    def __init__(self, program, many):
        self._entries = program.book.entries
        self._moves = tops_of(program).moves
        self._graph = chains_of(program).graph()
        self._below = nodes_below(self._graph)
        layers = [{node: 1 << node[1] for node in self._graph}]
        for _ in range(many):
            layers.append(self._next_layer(layers[-1]))
        self._layers = layers

    def _next_layer(self, layer):
        """The layer with one entry more opened."""
        found = {}
        for node, mask in layer.items():
            lower = self._moves[node[0]].down(mask)
            if lower:
                for other in self._below[node]:
                    found[other] = found.get(other, 0) | lower
        return found

    def _levels_beneath(self):
        """Sets of nodes as dicts, the first one with a node of the ground: a least way up to the last layer.

        All but the last one have just the nodes from which as few moves as can be lead to that layer.
        """
        levels = [self._layers[-1]]
        while not [node for node in levels[-1] if node[0] == ""]:
            lower = [other for node in levels[-1] for other in self._below[node]]
            levels.append({node: True for node in lower})
        return list(reversed(levels))

    def least(self):
        """The least state."""
        log = []
        levels = self._levels_beneath()
        nodes = {node: True for node in levels[0] if node[0] == ""}
        for level in levels[1:]:
            entry, nodes = self._least_step(nodes, level)
            log.append(entry)
        masks = {node: self._layers[-1][node] for node in nodes}
        for layer in reversed(self._layers[:-1]):
            entry, masks = self._least_opened(masks, layer)
            log.append(entry)
        return min([place for _, place in masks]), tuple(log)

    def _nodes_above(self, nodes, entry):
        """The nodes with this last entry behind some nodes, each with those of them behind which it stands."""
        found = {}
        for node in nodes:
            for other in self._graph[node]:
                if other[0] == entry:
                    found.setdefault(other, []).append(node)
        return found

    def _least_step(self, nodes, level):
        """The least entry that leads from some nodes to nodes of a level, and these nodes."""
        for entry in self._entries:
            above = {node: True for node in self._nodes_above(nodes, entry) if node in level}
            if above:
                return entry, above
        return None

    def _least_opened(self, masks, layer):
        """The least entry that leads to a layer such that it can be opened, and the nodes and tops with it there."""
        for entry in self._entries:
            found = {}
            for node, beneath in self._nodes_above(masks, entry).items():
                lower = 0
                for other in beneath:
                    lower = lower | masks[other]
                mask = self._moves[entry].up(lower) & layer.get(node, 0)
                if mask:
                    found[node] = mask
            if found:
                return entry, found
        return None
