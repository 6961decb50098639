"""Least forms of machines, and the least rows that part two of them."""
from housekept.errors import BadLooks, UnlikeSignals
from housekept.machines import check_machine
from housekept.shapes import is_among, is_ascending, is_tuple

LOOKS = ("doors", "endless", "words")


def check_looks(looks):
    if not is_tuple(looks, 1, 3) or not all([is_among(look, LOOKS) for look in looks]) or not is_ascending(looks):
        raise BadLooks("this is no ascending tuple of looks")


def look_of(answer, looks):
    """What of an answer counts, in the order of answers."""
    doors, words, is_endless = answer
    parts = (("doors", doors), ("words", words), ("endless", is_endless))
    return tuple([part for name, part in parts if name in looks])


class Numbering:
    """Numbers for values as they are met."""

    def __init__(self):
        self.numbers = {}

    def number(self, value):
        if value not in self.numbers:
            self.numbers[value] = len(self.numbers)
        return self.numbers[value]


def look_rows(machine, looks, numbering):
    """For each standing the tuple of the numbers of what counts of its answers."""
    doors = [numbering.number(("doors", row)) if "doors" in looks else 0 for row in machine.doors]
    said = [numbering.number((words if "words" in looks else (), is_endless if "endless" in looks else False))
            for words, is_endless in machine.sayings]
    kept = Numbering()
    rows = []
    for nexts, says in zip(machine.nexts, machine.says):
        rows.append(tuple([(doors[behind], said[say]) for behind, say in zip(nexts, says)]))
    return [kept.number(row) for row in rows], rows


class Classes:
    """Lots of standings that are refined until the standings of each are alike.

    Of a lot that is parted the greatest part keeps its number, so that little has to be looked at again.
    """

    def __init__(self, nexts, firsts):
        self.nexts = nexts
        self.lots = firsts
        self.sources = [[] for _ in nexts]
        for at in range(len(nexts)):
            for behind in sorted(set(nexts[at])):
                self.sources[behind].append(at)
        self.members = [[] for _ in range(max(firsts) + 1)]
        for at, lot in enumerate(firsts):
            self.members[lot].append(at)

    def refine(self):
        waiting = list(range(len(self.nexts)))
        while waiting:
            moved = self.part(waiting)
            waiting = sorted(set([source for at in moved for source in self.sources[at]]))

    def part(self, waiting):
        """Part all lots by where some standings lead; the standings that get a new number."""
        groups = {}
        for at in waiting:
            lot = self.lots[at]
            key = tuple([self.lots[behind] for behind in self.nexts[at]])
            groups.setdefault(lot, {}).setdefault(key, []).append(at)
        moved = []
        for lot in groups:
            parts = [groups[lot][key] for key in groups[lot]]
            if len(parts) > 1 or len(parts[0]) < len(self.members[lot]):
                moved.extend(self.renumbered(lot, parts))
        return moved

    def renumbered(self, lot, parts):
        """Give all parts of a lot but the greatest a new number."""
        if sum([len(part) for part in parts]) < len(self.members[lot]):
            named = {at: True for part in parts for at in part}
            parts = parts + [[at for at in self.members[lot] if at not in named]]
        parts = sorted(parts, key=len, reverse=True)
        self.members[lot] = parts[0]
        moved = []
        for part in parts[1:]:
            for at in part:
                self.lots[at] = len(self.members)
            self.members.append(part)
            moved.extend(part)
        return moved


def classes_of(machine, looks):
    """The classes of all standings, numbered as they are met from that of 0."""
    firsts, _ = look_rows(machine, looks, Numbering())
    refined = Classes(machine.nexts, firsts)
    refined.refine()
    lots = refined.lots
    numbers = {lots[0]: 0}
    order = [0]
    at = 0
    while at < len(order):
        here = order[at]
        for behind in machine.nexts[here]:
            if lots[behind] not in numbers:
                numbers[lots[behind]] = len(numbers)
                order.append(behind)
        at += 1
    return [numbers[lot] for lot in lots], order


def classes(machine, looks):
    """The list of the classes of all standings."""
    check_machine(machine)
    check_looks(looks)
    return classes_of(machine, looks)[0]


def least(machine, looks):
    """The least form: a row for each class, of its next classes and of what counts of its answers."""
    check_machine(machine)
    check_looks(looks)
    numbers, order = classes_of(machine, looks)
    rows = []
    for at in order:
        met = [machine.stepped(at, place) for place in range(len(machine.signals))]
        rows.append(tuple([(numbers[behind], look_of(answer, looks)) for behind, answer in met]))
    return tuple(rows)


class Merged:
    """Standings that must be alike if the first two are: a forest with a root for each lot."""

    def __init__(self, many):
        self.roots = list(range(many))

    def root(self, at):
        while self.roots[at] != at:
            self.roots[at] = self.roots[self.roots[at]]
            at = self.roots[at]
        return at

    def merge(self, one, other):
        """Whether two lots were two until now."""
        one, other = self.root(one), self.root(other)
        self.roots[one] = other
        return one != other


def row_along(machine, met, at, place):
    """The row by which a pair was met, and one signal more."""
    row = [machine.signals[place]]
    while met[at][2] is not None:
        at, place = met[at][2]
        row.append(machine.signals[place])
    return row[::-1]


def parting_row(one, other, looks, begins=(0, 0)):
    """The least row that two machines answer unlike from these standings, None if they are alike.

    Pairs are met by their least rows. One within the lots merged so far is left out: what parts
    it parts, behind a lesser row, one of the pairs that merged them.
    """
    numbering = Numbering()
    _, first = look_rows(one, looks, numbering)
    _, second = look_rows(other, looks, numbering)
    many = len(one)
    merged = Merged(many + len(other))
    merged.merge(begins[0], many + begins[1])
    met = [(begins[0], begins[1], None)]
    at = 0
    while at < len(met):
        here, there, _ = met[at]
        if first[here] != second[there]:
            unlike = [place for place in range(len(one.signals)) if first[here][place] != second[there][place]]
            return row_along(one, met, at, unlike[0])
        for place, (behind, beside) in enumerate(zip(one.nexts[here], other.nexts[there])):
            # Most signals lead nowhere: their pair is the one that stands here.
            if (behind != here or beside != there) and merged.merge(behind, many + beside):
                met.append((behind, beside, (at, place)))
        at += 1
    return None


def check_same_signals(one, other):
    if one.signals != other.signals:
        raise UnlikeSignals("the worlds have unlike signals")


def alike(one, other, looks):
    """None if two machines answer all rows alike, otherwise the least row that they do not."""
    check_machine(one)
    check_machine(other)
    check_looks(looks)
    check_same_signals(one, other)
    return parting_row(one, other, looks)
