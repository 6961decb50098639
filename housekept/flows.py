"""Flows: what goes along edges, between bounds; at each node as much comes as goes."""
from housekept.graphs import labels_to


class Flow:
    """A circulation over nodes that are told by their indexes. A bound of None is none."""

    def __init__(self, many):
        self.at_nodes = [[] for _ in range(many)]
        self.ends = []
        self.lows = []
        self.highs = []
        self.amounts = []

    def edge(self, tail, head, high):
        """A new edge, along which nothing goes yet; its index."""
        at = len(self.ends)
        self.ends.append((tail, head))
        self.lows.append(0)
        self.highs.append(high)
        self.amounts.append(0)
        self.at_nodes[tail].append((at, 1))
        self.at_nodes[head].append((at, -1))
        return at

    def has_room(self, edge, way):
        """Whether one more can go along an edge (way 1), or one less (way -1)."""
        if way == 1:
            return self.highs[edge] is None or self.amounts[edge] < self.highs[edge]
        return self.amounts[edge] > self.lows[edge]

    def room(self, steps):
        """How much more can go along all of some steps, None without bound."""
        rooms = [self.amounts[edge] - self.lows[edge] for edge, way in steps if way == -1]
        rooms.extend([self.highs[edge] - self.amounts[edge] for edge, way in steps
                      if way == 1 and self.highs[edge] is not None])
        return min(rooms) if rooms else None

    def push(self, steps, many):
        for edge, way in steps:
            self.amounts[edge] += way * many

    def beyond(self, edge, way):
        """The node to which a step along an edge leads."""
        return self.ends[edge][1] if way == 1 else self.ends[edge][0]

    def way_to(self, start, goal):
        """Steps with room from a node to another one, None if there are none."""
        comes = {start: None}
        order = [start]
        at = 0
        while at < len(order) and goal not in comes:
            node = order[at]
            for edge, way in self.at_nodes[node]:
                other = self.beyond(edge, way)
                if other not in comes and self.has_room(edge, way):
                    comes[other] = (node, (edge, way))
                    order.append(other)
            at += 1
        return labels_to(comes, goal) if goal in comes else None

    def force(self, edge):
        """Whether one at least can always go along an edge: from now on it does."""
        if self.amounts[edge] == 0:
            tail, head = self.ends[edge]
            steps = self.way_to(head, tail)
            if steps is None:
                return False
            self.push(steps + [(edge, 1)], 1)
        self.lows[edge] = 1
        return True

    def better_ring(self, gains):
        """Steps with room around a ring along which the gains are above 0, None if there is none.

        gains: a dict from edges to what one more along them gains.
        """
        best = [0] * len(self.at_nodes)
        comes = [None] * len(best)
        waiting = list(range(len(best)))
        while waiting:
            raised = {}
            for node in waiting:
                for edge, way in self.at_nodes[node]:
                    other = self.beyond(edge, way)
                    if best[node] + way * gains.get(edge, 0) > best[other] and self.has_room(edge, way):
                        best[other] = best[node] + way * gains.get(edge, 0)
                        comes[other] = (node, (edge, way))
                        raised[other] = True
            ring = ring_in(comes)
            if ring is not None:
                return ring
            waiting = list(raised)
        return None

    def improve(self, gains, enough):
        """Let as much be gained as can be; True if without bound, where enough goes around one ring."""
        ring = self.better_ring(gains)
        while ring is not None:
            many = self.room(ring)
            if many is None:
                self.push(ring, enough)
                return True
            self.push(ring, many)
            ring = self.better_ring(gains)
        return False


def ring_in(comes):
    """The steps around a ring of nodes each of which comes from the one ahead, None if there is none."""
    seen = [None] * len(comes)
    for first in range(len(comes)):
        node = first
        while node is not None and seen[node] is None:
            seen[node] = first
            node = None if comes[node] is None else comes[node][0]
        if node is not None and seen[node] == first:
            return ring_from(comes, node)
    return None


def ring_from(comes, first):
    node, step = comes[first]
    steps = [step]
    while node != first:
        node, step = comes[node]
        steps.append(step)
    return steps[::-1]
