"""Trees of wide crowds: what households without bound can come to, told by finitely many nodes."""
from housekept.buildings import areas_of, check_area, check_building, kinds_of
from housekept.courses import ahead_of, check_building_web, check_place
from housekept.crowds import Packing, check_crowd, is_kind_or_any, outside_crowd, totals_of
from housekept.errors import BadCrowd, BadFew, BadKind, BadMost, BadPlaces, BadTree, TooMany
from housekept.shapes import are_indexes, is_between, is_tuple

MANY = "many"
FEW = 20
MOST = 5000
PERSONS = 30


def is_few(building, value):
    many = len(kinds_of(building))
    if not is_tuple(value, many, many):
        return False
    return all([is_between(number, 0, FEW) or (type(number) is str and number == MANY) for number in value])


class Growth:
    """The nodes of a tree as they are met, wide crowds packed: the cap of the packing stands for many."""

    def __init__(self, building, web, few, most):
        self.building = building
        self.web = web
        self.most = most
        # Numbers grow by one from node to node, so all but many stay far below the cap.
        self.packing = Packing(building, 0)
        # Without many of a kind as many persons stay: no crowd then is within an unlike one on its way.
        self.widens = MANY in few
        self.met = []
        self.effects = {}
        # By places: all wide crowds that are known to be within one of a node, and the greatest ones of nodes.
        self.known = {}
        self.tops = {}
        first = self.packed(outside_crowd(building, few))
        for begin in web[1]:
            self.meet(begin, first, None, None)
        at = 0
        while at < len(self.met):
            self.explore(at)
            at += 1

    def packed(self, wide):
        return self.packing.packed([[self.packing.cap if number == MANY else number for number in row] for row in wide])

    def wide(self, whole):
        """The wide crowd of a whole."""
        cap = self.packing.cap
        return tuple([tuple([MANY if number == cap else number for number in row])
                      for row in self.packing.crowd(whole)])

    def number(self, whole, spot):
        return whole >> self.packing.shifts[spot] & self.packing.field

    def is_covered(self, place, whole):
        """Whether a wide crowd is within one of a node of a place; from now on it counts as if it were."""
        known = self.known.setdefault(place, {})
        if whole in known:
            return True
        known[whole] = True
        guards = self.packing.guards
        tops = self.tops.setdefault(place, [])
        if [top for top in tops if ((top | guards) - whole) & guards == guards]:
            return True
        self.tops[place] = [top for top in tops if ((whole | guards) - top) & guards != guards] + [whole]
        return False

    def meet(self, place, whole, parent, move):
        if not self.is_covered(place, whole):
            if len(self.met) == self.most:
                raise TooMany(self.most)
            self.met.append((place, whole, parent, move))

    def effects_at(self, place):
        """The moves of a place, but for those that do what one ahead of them does."""
        if place not in self.effects:
            found = {}
            for move in self.web[2][place]:
                found.setdefault(move[1:], move)
            self.effects[place] = [found[key] for key in found]
        return self.effects[place]

    def made(self, whole, move):
        """The wide crowd that a move makes, None if nobody is there who is needed."""
        _, need, there, _ = move
        if need is None:
            return whole
        cap = self.packing.cap
        number = self.number(whole, need)
        if number == 0:
            return None
        less = whole if number == cap else whole - (1 << self.packing.shifts[need])
        return less if self.number(less, there) == cap else less + (1 << self.packing.shifts[there])

    def way_to(self, at):
        """The numbers of the nodes on the way to a node, this one first."""
        found = []
        while at is not None:
            found.append(at)
            at = self.met[at][2]
        return found

    def within_made(self, made, lot):
        """Those of some nodes whose wide crowds are within one that is made, and unlike it."""
        guards = self.packing.guards
        top = made | guards
        return [at for at in lot if (top - self.met[at][1]) & guards == guards and self.met[at][1] != made]

    def widened(self, made, lot):
        """What is made, with many wherever it has more than one of the nodes within it."""
        cap = self.packing.cap
        wide = made
        for spot in self.packing.shifts if lot else ():
            number = self.number(made, spot)
            if number != cap and any([self.number(self.met[at][1], spot) < number for at in lot]):
                wide = wide + ((cap - number) << self.packing.shifts[spot])
        return wide

    def explore(self, at):
        """Meet what the moves of a node make."""
        place, whole, _, _ = self.met[at]
        on_way = {}
        for one in self.way_to(at) if self.widens else ():
            on_way.setdefault(self.met[one][0], []).append(one)
        for move in self.effects_at(place):
            made = self.made(whole, move)
            if made is not None:
                lot = self.within_made(made, on_way.get(move[3], []))
                self.meet(move[3], self.widened(made, lot), at, move)

    def node_above(self, place, whole):
        """The first node of a place whose wide crowd has this one within it, None if there is none."""
        guards = self.packing.guards
        for at, node in enumerate(self.met):
            if node[0] == place and ((node[1] | guards) - whole) & guards == guards:
                return at
        return None


class Leading:
    """From a node and a crowd within its wide crowd back to a begin: moves that lead there, for real persons.

    Where a wide crowd has many because one ahead was within it, the moves between them are gone along as often
    as is needed: what they take is there in any number.
    """

    def __init__(self, growth, at, crowd):
        self.growth = growth
        self.crowd = crowd
        self.moves = []
        while growth.met[at][2] is not None:
            self.go_round(at)
            self.go_back(growth.met[at][3])
            at = growth.met[at][2]
        self.begin = growth.met[at][0]

    def go_back(self, move):
        self.crowd = ahead_of(self.growth.building, move, self.crowd)
        self.moves.append(move)

    def numbers(self, whole):
        """By pairs (kind, area) the numbers that are not many."""
        growth = self.growth
        return {spot: growth.number(whole, spot) for spot in growth.packing.shifts
                if growth.number(whole, spot) != growth.packing.cap}

    def needed(self, spot):
        building = self.growth.building
        return self.crowd[kinds_of(building).index(spot[0])][areas_of(building).index(spot[1])]

    def rounds(self, at):
        """How often to go again from nodes on the way to this one: pairs (node, times)."""
        growth = self.growth
        place, _, parent, move = growth.met[at]
        whole = growth.made(growth.met[parent][1], move)
        lot = growth.within_made(whole, [one for one in growth.way_to(parent) if growth.met[one][0] == place])
        made = self.numbers(whole)
        gains = {one: {here: made[here] - growth.number(growth.met[one][1], here) for here in made} for one in lot}
        times = {}
        for spot in made:
            lacking = self.needed(spot) - made[spot] - sum([times[one] * gains[one][spot] for one in times])
            if lacking > 0:
                gain, best = max([(gains[one][spot], one) for one in lot])
                times[best] = times.get(best, 0) + (lacking + gain - 1) // gain
        return [(one, times[one]) for one in times]

    def go_round(self, at):
        """Go back along all rounds that lead from nodes on the way to this one."""
        for one, times in self.rounds(at):
            loop = []
            here = at
            while here != one:
                loop.append(self.growth.met[here][3])
                here = self.growth.met[here][2]
            for _ in range(times):
                for move in loop:
                    self.go_back(move)

    def course(self):
        return (totals_of(self.crowd), (self.begin, self.moves[::-1]))


class Tree:
    """The tree of all that comes of households with few of each kind, or with many."""

    def __init__(self, building, web, few, most):
        check_building(building)
        check_building_web(building, web)
        if not is_few(building, few):
            raise BadFew("this is no tuple of wholes from 0 to 20, or many")
        if not is_between(most, 1, MOST):
            raise BadMost("this is no whole from 1 to 5000")
        self.building = building
        self.web = web
        self.few = few
        self.growth = Growth(building, web, few, most)

    def nodes(self):
        """The nodes (place, wide crowd, parent, move) as they are met."""
        growth = self.growth
        return [(place, growth.wide(whole), parent, move) for place, whole, parent, move in growth.met]

    def reaches(self, place, crowd):
        """Whether a crowd is within the wide crowd of a node of a place."""
        check_place(self.web, place)
        check_crowd(self.building, crowd)
        return self.growth.node_above(place, self.growth.packing.packed(crowd)) is not None

    def greatest(self, places, kind, area):
        """The greatest number of a kind, or of any, in an area that nodes of some places have."""
        if type(places) is not tuple or not are_indexes(places, len(self.web[2])):
            raise BadPlaces("this is no ascending tuple of places")
        check_counted(self.building, kind, area)
        found = numbers_at(self, kind, area)
        among = {place: True for place in places}
        return greatest_of([number for place, number in found if place in among])

    def course_to(self, place, crowd):
        """A household, and a course of it to a place at which the crowd is within the last one."""
        check_place(self.web, place)
        check_crowd(self.building, crowd)
        if sum(totals_of(crowd)) > PERSONS:
            raise BadCrowd("this crowd has more than 30 persons")
        at = self.growth.node_above(place, self.growth.packing.packed(crowd))
        return None if at is None else Leading(self.growth, at, crowd).course()


def check_tree(tree):
    if not isinstance(tree, Tree):
        raise BadTree("this is no tree")


def check_counted(building, kind, area):
    """The errors of a kind, which may be any, and an area."""
    if not is_kind_or_any(building, kind):
        raise BadKind("this is no kind of the building, nor any")
    check_area(building, area)


def numbers_at(tree, kind, area):
    """For each node its place, and how many of a kind it has in an area."""
    growth = tree.growth
    kinds = kinds_of(tree.building) if kind == "any" else (kind,)
    found = []
    for place, whole, _, _ in growth.met:
        numbers = [growth.number(whole, (one, area)) for one in kinds]
        found.append((place, MANY if growth.packing.cap in numbers else sum(numbers)))
    return found


def greatest_of(numbers):
    """The greatest of some numbers, many being above all; None of none."""
    return MANY if MANY in numbers else max(numbers, default=None)
