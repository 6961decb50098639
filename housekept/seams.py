"""Seams: whether one machine can take over from another one as if it had run from the beginning."""
from housekept.errors import BadTo, TooMany
from housekept.graphs import labels_to, longest_ticks, tick_ring
from housekept.least import check_looks, check_same_signals, classes_of, parting_row
from housekept.machines import check_machine
from housekept.shapes import are_wholes, is_tuple

PAIRS = 1000
# Just so many standings have no more than PAIRS pairs.
FEW = 31


class Beside:
    """The pairs of standings to which one row leads two machines, as they are met: by their least rows."""

    def __init__(self, one, other):
        self.one = one
        self.other = other
        self.met = [(0, 0)]
        self.parents = {(0, 0): None}
        self.lengths = [0]

    def walk(self):
        at = 0
        while at < len(self.met):
            here, there = self.met[at]
            for place, pair in enumerate(zip(self.one.nexts[here], self.other.nexts[there])):
                if pair not in self.parents:
                    if len(self.met) == PAIRS:
                        raise TooMany(PAIRS)
                    self.parents[pair] = ((here, there), place)
                    self.met.append(pair)
                    self.lengths.append(self.lengths[at] + 1)
            at += 1

    def row_to(self, pair):
        """The least row that leads both there."""
        return [self.one.signals[place] for place in labels_to(self.parents, pair)]

    def beside_each(self):
        """For each standing of the one those of the other beside it, as they are met."""
        found = [[] for _ in range(len(self.one))]
        for here, there in self.met:
            found[here].append(there)
        return found


def check_pair(one, other):
    check_machine(one)
    check_machine(other)
    check_same_signals(one, other)


def walked(one, other):
    pairs = Beside(one, other)
    pairs.walk()
    return pairs


def beside(one, other):
    """The pairs of standings to which one row leads two machines, ascending."""
    check_pair(one, other)
    return sorted(walked(one, other).met)


def first_seam(pairs, lots):
    """The places, in the order in which they are met, of two pairs that part least; None if none do.

    Rows are in order as the pairs to which they lead least are met.
    """
    by_standing = {}
    best = None
    for second, (here, there) in enumerate(pairs.met):
        for first in by_standing.setdefault(here, []):
            if lots[pairs.met[first][1]] != lots[there]:
                found = (pairs.lengths[first] + pairs.lengths[second], first, second)
                best = found if best is None else min(best, found)
        by_standing[here].append(second)
    return None if best is None else best[1:]


def seam(one, other, looks):
    """Where the other machine can take over from each standing of the one, or what shows that it cannot."""
    check_pair(one, other)
    check_looks(looks)
    pairs = walked(one, other)
    lots, _ = classes_of(other, looks)
    parted = first_seam(pairs, lots)
    if parted is None:
        return ("seamless", tuple([there[0] for there in pairs.beside_each()]))
    first, second = pairs.met[parted[0]], pairs.met[parted[1]]
    rest = parting_row(other, other, looks, (first[1], second[1]))
    return ("seam", pairs.row_to(first), pairs.row_to(second), rest)


def unlike_graph(other, looks):
    """The pairs of standings of a machine that are not alike, and the moves from each to such: a graph.

    The pair (here, there) is the node here * len(other) + there; pairs that are alike lead nowhere.
    """
    lots, _ = classes_of(other, looks)
    many = len(other)
    ticks = [1 if signal[0] == "tick" else 0 for signal in other.signals]
    graph = []
    for here in range(many):
        for there in range(many):
            edges = []
            if lots[here] != lots[there]:
                for place, pair in enumerate(zip(other.nexts[here], other.nexts[there])):
                    if lots[pair[0]] != lots[pair[1]]:
                        edges.append((pair[0] * many + pair[1], ticks[place], other.signals[place]))
            graph.append(edges)
    return graph, lots


class Healing:
    """For each pair of standings of a machine by how many ticks they are alike, None if by none."""

    def __init__(self, other, looks):
        self.many = len(other)
        self.graph, self.lots = unlike_graph(other, looks)
        self.most_ticks = longest_ticks(self.graph)

    def node(self, here, there):
        return here * self.many + there

    def ticks(self, here, there):
        if self.lots[here] == self.lots[there]:
            return 0
        longest = self.most_ticks[self.node(here, there)]
        return None if longest is None else longest + 1

    def greatest(self, here, lot):
        """By how many ticks a standing is alike to each one of a lot."""
        found = [self.ticks(here, there) for there in lot]
        return None if None in found else max(found)


def check_to(one, other, to):
    if not is_tuple(to, len(one), len(one)) or not are_wholes(to, 0, len(other) - 1):
        raise BadTo("this is no tuple with a standing for each standing")


def healed(one, other, looks):
    """The pairs beside one another, and how the other machine's standings heal; all else being right."""
    if len(other) > FEW:
        raise TooMany(PAIRS)
    return walked(one, other), Healing(other, looks)


def healing(one, other, looks, to):
    """Behind how many ticks the standings of to are as those beside for sure, None if never for sure."""
    check_pair(one, other)
    check_looks(looks)
    check_to(one, other, to)
    pairs, heals = healed(one, other, looks)
    found = [heals.ticks(to[here], there) for here, there in pairs.met]
    return None if None in found else max(found)


def never_heals(one, other, looks, to):
    """None if healing is a number, otherwise rows to, behind and around which a pair is never alike."""
    check_pair(one, other)
    check_looks(looks)
    check_to(one, other, to)
    pairs, heals = healed(one, other, looks)
    for here, there in pairs.met:
        if heals.ticks(to[here], there) is None:
            behind, ring = tick_ring(heals.graph, heals.node(to[here], there))
            return (pairs.row_to((here, there)), behind, ring)
    return None


def best_passage(one, other, looks):
    """For each standing of the one the least of the standings that heal soonest, None if one has none."""
    check_pair(one, other)
    check_looks(looks)
    pairs, heals = healed(one, other, looks)
    to = []
    for lot in pairs.beside_each():
        found = [(heals.greatest(here, lot), here) for here in range(len(other))]
        sure = [pair for pair in found if pair[0] is not None]
        if not sure:
            return None
        to.append(min(sure)[1])
    return tuple(to)
