"""Ways out: for how long behind smoke somebody can be shut in."""
from housekept.buildings import areas_of, check_area, inner_areas
from housekept.crowds import Packing, are_at_most, check_household, greatest_number
from housekept.errors import BadArea, BadTicks, TooMany
from housekept.households import MOST, least_households, with_courses
from housekept.machines import check_machine, check_number
from housekept.promises import loads_where
from housekept.shapes import is_among, is_between
from housekept.tables import Closed, Rounds, sources_of
from housekept.ways import reached_from
from housekept.webs import web_of

PLACES = 20000
TICKS = 12


class Ages:
    """The standings of a machine, each with how long smoke has been told in an area: places as they are met."""

    def __init__(self, machine, area, most):
        slots = machine.slots
        slot = slots.slots[("variable", "smoke:" + area)]
        self.machine = machine
        self.most = most
        self.smoky = [flat[slot] == "yes" for flat in machine.flats]
        self.places = [(0, 0)]
        self.numbers = {(0, 0): 0}

    def age_behind(self, at, age, label, behind):
        if not self.smoky[behind] or not self.smoky[at]:
            return 0
        return min(age + 1, self.most) if label[0] == "tick" else age

    def number(self, place):
        if place not in self.numbers:
            if len(self.places) == PLACES:
                raise TooMany(PLACES)
            self.numbers[place] = len(self.places)
            self.places.append(place)
        return self.numbers[place]

    def moves(self, at, age, moves):
        """The moves of a standing as those of the standing with an age."""
        return tuple([(label, need, there, self.number((behind, self.age_behind(at, age, label, behind))))
                      for label, need, there, behind in moves])

    def walk(self, moves_by_standing):
        """The web of the places, made from the moves of the machine's."""
        found = []
        while len(found) < len(self.places):
            at, age = self.places[len(found)]
            found.append(self.moves(at, age, moves_by_standing[at]))
        return ("web", (0,), tuple(found))


def aged_web(machine, area, most, moves_by_standing):
    """As aged, of what is known to be right, for moves of the machine's web."""
    ages = Ages(machine, area, most)
    web = ages.walk(moves_by_standing)
    return web, tuple(ages.places)


def lasting_moves(machine):
    """The moves of a machine's web, but for those that do what one ahead of them does, or nothing.

    Without these the same places are met in the same order, and shortest courses are the same.
    """
    found = []
    for at, moves in enumerate(web_of(machine)[2]):
        seen = {}
        for label, need, there, behind in moves:
            ticks = label[0] == "tick"
            if (ticks or behind != at or need != there) and (need, there, behind, ticks) not in seen:
                seen[(need, there, behind, ticks)] = (label, need, there, behind)
        found.append([seen[key] for key in seen])
    return found


def check_inner(machine, area):
    if not is_among(area, inner_areas(machine.text[1])):
        raise BadArea("this is no inner area")


def check_age(ticks):
    if not is_between(ticks, 0, TICKS):
        raise BadTicks("this is no whole from 0 to 12")


def aged(machine, area, most):
    """The web of a machine's persons with the age of smoke in an area, and its places (standing, age)."""
    check_machine(machine)
    check_inner(machine, area)
    check_age(most)
    return aged_web(machine, area, most, web_of(machine)[2])


def areas_from(machine, at, area):
    """As free_areas, of what is known to be right."""
    names = machine.slots.doors
    free = [name for name, how in zip(names, machine.doors[at]) if how == "free"]
    return reached_from(machine.text[1], free, area)


def free_areas(machine, at, area):
    """The areas to which doors that stand free lead from an area, itself too."""
    check_machine(machine)
    check_number(machine, at)
    check_area(machine.text[1], area)
    return areas_from(machine, at, area)


def places_shut_in(machine, area, t, places):
    """The places at which smoke has been told for t ticks, and no free door leads out."""
    slot = machine.slots.slots[("variable", "smoke:" + area)]
    outside = areas_of(machine.text[1])[0]
    shut = {}
    found = []
    for place, (at, age) in enumerate(places):
        if age == t and machine.flats[at][slot] == "yes":
            how = machine.doors[at]
            if how not in shut:
                shut[how] = outside not in areas_from(machine, at, area)
            if shut[how]:
                found.append(place)
    return tuple(found)


def bad_places(machine, area, t):
    """The places of aged with the age t at which the area is full of smoke and shut in."""
    check_machine(machine)
    check_inner(machine, area)
    check_age(t)
    return places_shut_in(machine, area, t, aged_web(machine, area, t, lasting_moves(machine))[1])


def closed_at(machine, area, t, moves_by_standing):
    """The table of who can be in an area that is shut in, smoke having been told there for t ticks."""
    building = machine.text[1]
    web, places = aged_web(machine, area, t, moves_by_standing)
    bad = places_shut_in(machine, area, t, places)
    loads = loads_where(building, web, ("never", bad, (("any", area, 1),)))
    packing = Packing(building, greatest_number([crowd for crowds in loads for crowd in crowds]))
    closing = Rounds(sources_of(web[2]), packing, MOST)
    seeds = {place: closing.packed(crowds) for place, crowds in enumerate(loads)}
    last = closing.close([seeds], [0])
    return Closed(building, web, packing, closing.entries, last)


def shut_in(machine, area, t):
    """The least households of which somebody can be shut in with smoke told for t ticks, each with a course."""
    check_machine(machine)
    check_inner(machine, area)
    check_age(t)
    return with_courses(closed_at(machine, area, t, lasting_moves(machine)))


def least_safe(machine, area, household):
    """The least t for which no household is bad that is at most this one; None: no household at all."""
    moves_by_standing = lasting_moves(machine)
    for t in range(TICKS, -1, -1):
        lot = least_households(closed_at(machine, area, t, moves_by_standing))
        if [less for less in lot if household is None or are_at_most(less, household)]:
            return None if t == TICKS else t + 1
    return 0


def safe_after(machine, area):
    """The least number of ticks of smoke behind which nobody is shut in, None if there is none."""
    check_machine(machine)
    check_inner(machine, area)
    return least_safe(machine, area, None)


def safe_for(machine, area, household):
    """The same for one household."""
    check_machine(machine)
    check_inner(machine, area)
    check_household(machine.text[1], household)
    return least_safe(machine, area, household)
