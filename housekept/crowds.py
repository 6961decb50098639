"""Crowds: how many persons of each kind are in each area; households: how many there are of each kind."""
from housekept.buildings import areas_of, check_area, check_building, kinds_of
from housekept.errors import BadCrowd, BadCrowds, BadHousehold, BadKind
from housekept.shapes import is_among, is_from, is_row, is_tuple

SPARE = 40


def are_numbers(value, many):
    """Whether a value is a tuple of so many wholes from 0 on."""
    return is_tuple(value, many, many) and all([is_from(number, 0) for number in value])


def is_crowd_of(building, value):
    many = len(kinds_of(building))
    return is_tuple(value, many, many) and all([are_numbers(row, len(areas_of(building))) for row in value])


def is_household_of(building, value):
    return are_numbers(value, len(kinds_of(building)))


def is_crowd(building, value):
    check_building(building)
    return is_crowd_of(building, value)


def is_household(building, value):
    check_building(building)
    return is_household_of(building, value)


def check_crowd(building, crowd):
    if not is_crowd_of(building, crowd):
        raise BadCrowd("this is no crowd of the building")


def check_household(building, household):
    if not is_household_of(building, household):
        raise BadHousehold("this is no household of the building")


def check_crowds(building, crowds):
    if not is_row(crowds) or not all([is_crowd_of(building, crowd) for crowd in crowds]):
        raise BadCrowds("this is no list of crowds of the building")


def is_kind_or_any(building, value):
    return is_among(value, kinds_of(building)) or is_among(value, ("any",))


class Packing:
    """Crowds as wholes: each number has a field of bits, and above it a bit that is free.

    So one subtraction compares all numbers of two crowds: where a bit that was set above them is
    lost, a number was greater. The first number stands highest: wholes ascend as crowds do.
    Numbers above the cap count as the cap, which is far above all that crowds are compared with.
    """

    def __init__(self, building, greatest):
        self.areas = areas_of(building)
        self.kinds = kinds_of(building)
        bits = greatest.bit_length() + SPARE
        self.cap = 1 << bits
        self.width = bits + 2
        self.field = (1 << (bits + 1)) - 1
        self.guards = 0
        # Where the field of each pair (kind, area) begins.
        self.shifts = {}
        spots = [(kind, area) for kind in self.kinds for area in self.areas]
        for at, spot in enumerate(spots[::-1]):
            self.shifts[spot] = at * self.width
            self.guards = self.guards | (1 << (at * self.width + bits + 1))

    def packed(self, crowd):
        whole = 0
        for row in crowd:
            for number in row:
                whole = (whole << self.width) | min(number, self.cap)
        return whole

    def crowd(self, whole):
        """The crowd of a whole."""
        return tuple([tuple([whole >> self.shifts[(kind, area)] & self.field for area in self.areas])
                      for kind in self.kinds])


def totals_of(crowd):
    """How many persons of each kind there are."""
    return tuple([sum(row) for row in crowd])


def are_at_most(one, other):
    return all([number <= most for number, most in zip(one, other)])


class Lowest:
    """Packed crowds of which none lies within another one, in groups by how many persons of each kind they have.

    Of two unlike crowds with as many persons of each kind neither lies within the other one, so each
    is held against the groups with fewer, or with more, alone.
    """

    def __init__(self, guards):
        self.guards = guards
        self.groups = {}
        self.under = {}
        self.over = {}

    def group(self, totals):
        """The group of crowds with so many persons, made when it is first asked for."""
        if totals not in self.groups:
            under = [key for key in self.groups if are_at_most(key, totals)]
            over = [key for key in self.groups if are_at_most(totals, key)]
            for key in under:
                self.over[key].append(totals)
            for key in over:
                self.under[key].append(totals)
            self.groups[totals] = {}
            self.under[totals] = under
            self.over[totals] = over
        return self.groups[totals]

    def lies_above(self, whole, totals):
        """Whether some crowd here is within one."""
        guards = self.guards
        top = whole | guards
        if whole in self.group(totals):
            return True
        for key in self.under[totals]:
            if [one for one in self.groups[key] if (top - one) & guards == guards]:
                return True
        return False

    def put(self, whole, totals):
        """Take in a crowd that no crowd here is within; those within which it lies go, and are returned."""
        guards = self.guards
        group = self.group(totals)
        group[whole] = True
        gone = []
        for key in self.over[totals]:
            above = [one for one in self.groups[key] if ((one | guards) - whole) & guards == guards]
            for one in above:
                self.drop(key, one)
            gone.extend(above)
        return gone

    def drop(self, totals, whole):
        group = self.groups[totals]
        del group[whole]


def greatest_number(crowds):
    return max([number for crowd in crowds for row in crowd for number in row], default=0)


def least_of(building, crowds):
    """As least_crowds, of what is known to be right."""
    packing = Packing(building, greatest_number(crowds))
    lowest = Lowest(packing.guards)
    kept = {}
    # What is within another one has no more persons, so no crowd that is taken in here goes again.
    for _, crowd in sorted([(sum(totals_of(crowd)), crowd) for crowd in crowds]):
        whole, totals = packing.packed(crowd), totals_of(crowd)
        if not lowest.lies_above(whole, totals):
            lowest.put(whole, totals)
            kept[crowd] = True
    return sorted(kept)


def outside_crowd(building, household):
    inner = (0,) * (len(areas_of(building)) - 1)
    return tuple([(number,) + inner for number in household])


def crowd_at(building, household):
    """The crowd of a household that is outside."""
    check_building(building)
    check_household(building, household)
    return outside_crowd(building, household)


def household_of(building, crowd):
    check_building(building)
    check_crowd(building, crowd)
    return totals_of(crowd)


def number_there(building, crowd, kind, area):
    """As count_there, of what is known to be right."""
    place = areas_of(building).index(area)
    if kind == "any":
        return sum([row[place] for row in crowd])
    return crowd[kinds_of(building).index(kind)][place]


def count_there(building, crowd, kind, area):
    """How many persons of a kind, or of any, are in an area."""
    check_building(building)
    check_crowd(building, crowd)
    if not is_kind_or_any(building, kind):
        raise BadKind("this is no kind of the building, nor any")
    check_area(building, area)
    return number_there(building, crowd, kind, area)


def lies_within(one, other):
    return all([number <= most for row, mosts in zip(one, other) for number, most in zip(row, mosts)])


def is_within(building, one, other):
    """Whether no number of one crowd is greater than that of another one."""
    check_building(building)
    check_crowd(building, one)
    check_crowd(building, other)
    return lies_within(one, other)


def least_crowds(building, crowds):
    """The crowds of a list within which no unlike one of it lies, ascending."""
    check_building(building)
    check_crowds(building, crowds)
    return least_of(building, crowds)
