"""Walks along the edges of a graph: lots that lead to one another, shortest rows, longest walks by ticks.

A graph is a list that has for each node the list of its edges: triples (next node, ticks, label),
with 0 or 1 ticks. Nodes are told by their indexes.
"""


class Lots:
    """The lots of nodes that lead to one another: each lot leads to itself and to lots ahead of it alone."""

    def __init__(self, graph):
        self.graph = graph
        self.ranks = [None] * len(graph)
        self.lows = [0] * len(graph)
        self.places = [0] * len(graph)
        self.lots = [None] * len(graph)
        self.members = []
        self.waiting = []
        self.many = 0

    def close(self):
        for node in range(len(self.graph)):
            if self.ranks[node] is None:
                self.walk(node)

    def enter(self, node):
        self.ranks[node] = self.many
        self.lows[node] = self.many
        self.many += 1
        self.waiting.append(node)

    def leave(self, node):
        """Behind all edges of a node: if it leads to nothing that was met ahead of it, its lot is whole."""
        if self.lows[node] < self.ranks[node]:
            return
        members = []
        while self.lots[node] is None:
            member = self.waiting.pop()
            self.lots[member] = len(self.members)
            members.append(member)
        self.members.append(members)

    def walk(self, first):
        """Go through all that a node leads to, by a path of its own: it may be longer than calls may nest."""
        path = [first]
        self.enter(first)
        while path:
            node = path[-1]
            at = self.places[node]
            if at == len(self.graph[node]):
                self.leave(node)
                path.pop()
                if path:
                    self.lows[path[-1]] = min(self.lows[path[-1]], self.lows[node])
                continue
            self.places[node] = at + 1
            behind = self.graph[node][at][0]
            if self.ranks[behind] is None:
                self.enter(behind)
                path.append(behind)
            elif self.lots[behind] is None:
                self.lows[node] = min(self.lows[node], self.ranks[behind])


def lots_of(graph):
    lots = Lots(graph)
    lots.close()
    return lots


def lot_longest(graph, lots, at, found):
    """The greatest number of ticks of walks from a lot, found being those of the lots ahead; None without bound."""
    most = 0
    for node in lots.members[at]:
        for behind, tick, _ in graph[node]:
            lot = lots.lots[behind]
            if lot == at and tick == 0:
                continue
            if lot == at or found[lot] is None:
                return None
            most = max(most, found[lot] + tick)
    return most


def longest_ticks(graph):
    """For each node the greatest number of ticks of the walks from it, None if there is no greatest one."""
    lots = lots_of(graph)
    found = []
    for at in range(len(lots.members)):
        found.append(lot_longest(graph, lots, at, found))
    return [found[lot] for lot in lots.lots]


def labels_to(parents, node):
    """The labels along the walk by which a node was met."""
    row = []
    while parents[node] is not None:
        node, label = parents[node]
        row.append(label)
    return row[::-1]


def walk_to(graph, starts, goals):
    """The first shortest walk from one of some nodes to one whose item of goals is True: (node, its labels).

    None if there is none. Nodes are met by the least of their shortest rows of edges.
    """
    parents = {start: None for start in starts}
    order = list(parents)
    at = 0
    while at < len(order):
        node = order[at]
        if goals[node]:
            return (node, labels_to(parents, node))
        for behind, _, label in graph[node]:
            if behind not in parents:
                parents[behind] = (node, label)
                order.append(behind)
        at += 1
    return None


def goal_at(graph, node):
    """The goals that only one node is."""
    return [at == node for at in range(len(graph))]


def tick_ring(graph, start):
    """From a node whose walks have ticks without bound: the labels to a ring with a tick, and along it."""
    lots = lots_of(graph)
    goals = []
    for node, edges in enumerate(graph):
        goals.append(any([tick == 1 and lots.lots[behind] == lots.lots[node] for behind, tick, _ in edges]))
    node, row = walk_to(graph, [start], goals)
    for behind, tick, label in graph[node]:
        if tick == 1 and lots.lots[behind] == lots.lots[node]:
            _, back = walk_to(graph, [behind], goal_at(graph, node))
            return (row, [label] + back)
    return None


def longest_row(graph, longest, node):
    """Where all edges are ticks: the labels of a walk from a node with as many as can be, and its end."""
    row = []
    while longest[node] > 0:
        behind, label = [(behind, label) for behind, _, label in graph[node] if longest[behind] == longest[node] - 1][0]
        row.append(label)
        node = behind
    return row, node
