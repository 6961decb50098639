"""Mirrors: how far what is counted at places can be from who is there."""
from heapq import heappop, heappush
from housekept.buildings import check_building, kinds_of
from housekept.courses import check_building_web
from housekept.crowds import check_household, outside_crowd
from housekept.errors import BadMarks, BadName, TooMany
from housekept.machines import check_machine
from housekept.promises import Search, check_most
from housekept.shapes import is_among
from housekept.trees import MANY, check_counted, check_tree, greatest_of, numbers_at


def counter_marks(machine, counter):
    """What a counter is at each standing."""
    check_machine(machine)
    slots = machine.slots
    if not is_among(counter, slots.counters):
        raise BadName("this is no counter of the text")
    slot = slots.slots[("counter", counter)]
    return tuple([flat[slot] for flat in machine.flats])


def check_marks(web, marks):
    if type(marks) is not tuple or len(marks) != len(web[2]) or not all([type(mark) is int for mark in marks]):
        raise BadMarks("this is no tuple of one whole for each place")


def short_by(tree, marks, kind, area):
    """The greatest truth less mark over all that comes of the tree's households, many without end."""
    check_tree(tree)
    check_marks(tree.web, marks)
    check_counted(tree.building, kind, area)
    return greatest_of([number if number == MANY else number - marks[place]
                        for place, number in numbers_at(tree, kind, area)])


class Moments:
    """All moments that come of a household."""

    def __init__(self, building, web, crowd, most):
        self.search = Search(building, web, (), crowd)
        self.most = most
        self.met = []
        self.seen = {}
        whole = self.search.packing.packed(crowd)
        for begin in web[1]:
            self.meet(begin, whole)

    def meet(self, place, whole):
        if (place, whole) not in self.seen:
            if len(self.met) == self.most:
                raise TooMany(self.most)
            self.seen[(place, whole)] = True
            self.met.append((place, whole))

    def walk(self):
        at = 0
        field = self.search.packing.field
        while at < len(self.met):
            place, whole = self.met[at]
            for _, shift, more, behind in self.search.steps_at(place):
                if shift is None or whole >> shift & field:
                    self.meet(behind, whole + more)
            at += 1

    def truths(self, kinds, area):
        """For each moment its place, and how many of some kinds are in an area."""
        packing = self.search.packing
        shifts = [packing.shifts[(kind, area)] for kind in kinds]
        return [(place, sum([whole >> shift & packing.field for shift in shifts])) for place, whole in self.met]


def over_by(building, web, household, marks, kind, area, most):
    """The greatest mark less truth over all moments of a household's courses."""
    check_building(building)
    check_building_web(building, web)
    check_household(building, household)
    check_marks(web, marks)
    check_counted(building, kind, area)
    check_most(most)
    moments = Moments(building, web, outside_crowd(building, household), most)
    moments.walk()
    kinds = kinds_of(building) if kind == "any" else (kind,)
    return max([marks[place] - truth for place, truth in moments.truths(kinds, area)])


def counted_behind(number, move, kind, area):
    """How many are there at least behind a move, if so many are ahead of it."""
    _, need, there, _ = move
    if need is None or kind not in ("any", need[0]):
        return number
    if need[1] == area and there[1] == area:
        return max(number, 1)
    if there[1] == area:
        return number + 1
    return max(number - 1, 0) if need[1] == area else number


def low(building, web, kind, area):
    """For each place how many of a kind are surely in an area there, None where nothing comes."""
    check_building(building)
    check_building_web(building, web)
    check_counted(building, kind, area)
    found = [None] * len(web[2])
    queue = []
    for begin in web[1]:
        found[begin] = 0
        heappush(queue, (0, begin))
    # A place whose number has been made less since it was put in comes again with that one.
    while queue:
        number, place = heappop(queue)
        for move in web[2][place] if number == found[place] else ():
            behind = counted_behind(number, move, kind, area)
            if found[move[3]] is None or behind < found[move[3]]:
                found[move[3]] = behind
                heappush(queue, (behind, move[3]))
    return tuple(found)
