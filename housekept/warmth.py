"""Warmth: a text that drives heaters and doors in its air, and hears buttons that ring by degrees."""
from housekept.air import OUT, check_air, stepped_degrees
from housekept.buildings import areas_of, doors_of, inner_areas
from housekept.errors import BadFitting, BadOthers, Unfit
from housekept.firstwalks import FirstWalks
from housekept.machines import check_machine, is_world_signal
from housekept.shapes import are_unlike, is_among, is_between, is_tuple

MOMENTS = 600
TICK = ("tick",)


def is_fitting_row(air, value):
    if not is_tuple(value, 4, 4) or not is_among(value[0], [row[0] for row in air[1]]):
        return False
    return is_among(value[1], ("cold", "warm")) and is_between(value[2], -40, 40) and is_between(value[3], 0, 5)


def is_fitting(air, value):
    return is_tuple(value, 0, 4) and all([is_fitting_row(air, row) for row in value])


def are_others(machine, value):
    """Whether a value is a tuple of at most 4 unlike signals of the machine's world, no tick."""
    if not is_tuple(value, 0, 4) or not all([is_world_signal(machine, signal) for signal in value]):
        return False
    return TICK not in value and are_unlike(value)


def check_others(machine, others):
    if not are_others(machine, others):
        raise BadOthers("these are no unlike signals of the world")


def joins(building, leak):
    """Whether the door of a leak, if it has one, joins its areas."""
    area, other, _, name = leak
    if name is None:
        return True
    behind = areas_of(building)[0] if other == OUT else other
    return any([door[0] == name and sorted(door[1:3]) == sorted([area, behind]) for door in doors_of(building)])


def fits_air(machine, air, fitting):
    """Whether a machine fits an air and a fitting."""
    worths = machine.slots.scope.worths
    building = machine.text[1]
    if not all([name in worths and len(worths[name]) == 2 for name, _, _ in air[4]]):
        return False
    if not all([row[0] in inner_areas(building) for row in air[1]]):
        return False
    if not all([row[3] in machine.world[2] for row in fitting]):
        return False
    return all([joins(building, leak) for leak in air[3]])


class Weathers:
    """The moves of moments (number of a standing, degrees, weather): the others' signals, and weathers."""

    def __init__(self, machine, air, fitting, others):
        self.machine = machine
        self.air = air
        self.fitting = fitting
        self.others = others
        slots = machine.slots
        # Each heater's slot, and the value with which it is on.
        self.heaters = [(name, slots.slots[("variable", name)], slots.scope.worths[name][1]) for name, _, _ in air[4]]

    def setting(self, at):
        """Which heaters are on at a standing, and which doors are free."""
        flat = self.machine.flats[at]
        on = [name for name, slot, worth in self.heaters if flat[slot] == worth]
        names = self.machine.slots.doors
        free = [name for name, how in zip(names, self.machine.doors[at]) if how == "free"]
        return (on, free)

    def behind_signal(self, at, signal):
        return self.machine.nexts[at][self.machine.places[signal]]

    def rings(self, row, degrees):
        """Whether a row of the fitting rings at some degrees."""
        area, word, level, _ = row
        degree = degrees[[room[0] for room in self.air[1]].index(area)]
        return degree <= level if word == "cold" else degree >= level

    def behind_tick(self, at, degrees, weather):
        """The moment behind a tick with a new weather, None if the degrees come out of bounds."""
        degrees = stepped_degrees(self.air, degrees, weather, self.setting(at))
        if not all([row[1] <= degree <= row[2] for degree, row in zip(degrees, self.air[1])]):
            return None
        for row in self.fitting:
            if self.rings(row, degrees):
                at = self.behind_signal(at, ("button", row[3]))
        return (self.behind_signal(at, TICK), degrees, weather)

    def moves_told(self, moment):
        """The others' signals, and the weathers."""
        at, degrees, weather = moment
        least, most, _, move = self.air[5]
        found = [(signal, (self.behind_signal(at, signal), degrees, weather)) for signal in self.others]
        for new in range(max(least, weather - move), min(most, weather + move) + 1):
            found.append((("weather", new), self.behind_tick(at, degrees, new)))
        return found


class Warmth:
    """A machine in its air: what can come, and whether the degrees stay in bounds."""

    def __init__(self, machine, air, fitting, others):
        check_machine(machine)
        check_air(air)
        if not is_fitting(air, fitting):
            raise BadFitting("this is no fitting of the air")
        check_others(machine, others)
        if not fits_air(machine, air, fitting):
            raise Unfit("the machine does not fit the air and the fitting")
        first = (0, tuple([row[3] for row in air[1]]), air[5][2])
        self.walks = FirstWalks(first, MOMENTS, Weathers(machine, air, fitting, others))
        self.walks.explore()

    def moments(self):
        """All moments, as they are met."""
        return list(self.walks.met)

    def broken(self):
        """The first of the shortest lists of moves that bring the degrees out of bounds, None if none do."""
        for at, steps in enumerate(self.walks.steps):
            for label, behind in steps:
                if behind is None:
                    return self.walks.row_to(at) + [label]
        return None
