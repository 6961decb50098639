"""Least households that can meet loads, and boxes of those that cannot."""
from housekept.buildings import areas_of, check_building, kinds_of
from housekept.courses import check_building_web, check_place, moments_along
from housekept.crowds import check_crowds, check_household, lies_within, outside_crowd
from housekept.promises import check_loads, check_promise, loads_where
from housekept.shapes import is_one, is_row, is_tuple
from housekept.tables import Table, check_table

MANY = "many"
MOST = 1000


def course_of_least(closed, household):
    """The course from the first begin from which fewest moves are left."""
    crowd = outside_crowd(closed.building, household)
    best = None
    for begin in closed.web[1]:
        left = closed.left_of(begin, crowd)
        if left is not None and (best is None or left < best[0]):
            best = (left, begin)
    return (best[1], closed.moves_from(best[1], crowd))


def outside_households(closed):
    """The households of all least crowds of begins that are outside as a whole."""
    inner = range(1, len(areas_of(closed.building)))
    found = {}
    for begin in closed.web[1]:
        for crowd in closed.least_at(begin, closed.rounds):
            if not any([row[at] for row in crowd for at in inner]):
                found[tuple([row[0] for row in crowd])] = True
    return list(found)


def least_households(closed):
    """The least households that can meet the loads, by how many persons they are, then ascending."""
    guards = closed.packing.guards
    kept = []
    wholes = []
    for _, household in sorted([(sum(household), household) for household in outside_households(closed)]):
        whole = closed.packing.packed(outside_crowd(closed.building, household))
        top = whole | guards
        if not [less for less in wholes if (top - less) & guards == guards]:
            kept.append(household)
            wholes.append(whole)
    return kept


def with_courses(closed):
    """The least households that can meet the loads, each with a shortest course."""
    return [(household, course_of_least(closed, household)) for household in least_households(closed)]


def households_of(table):
    """The least households that can meet a table's loads, each with a shortest course."""
    check_table(table)
    return with_courses(table.closed)


def households(building, web, promise):
    """The least households that can break a promise, each with a shortest course."""
    check_building(building)
    check_building_web(building, web)
    check_promise(building, web, promise)
    return with_courses(Table(building, web, loads_where(building, web, promise), MOST).closed)


def holds_for(table, household):
    """Whether a household cannot meet a table's loads."""
    check_table(table)
    check_household(table.building, household)
    crowd = outside_crowd(table.building, household)
    return all([table.closed.left_of(begin, crowd) is None for begin in table.web[1]])


def is_break(building, web, loads, household, value):
    """Whether a value is a course of a household at whose end loads are met."""
    check_building(building)
    check_building_web(building, web)
    check_loads(building, web, loads)
    check_household(building, household)
    if not is_tuple(value, 2, 2) or not is_one(value[0], web[1]) or not is_row(value[1]):
        return False
    found = moments_along(building, web, value[0], outside_crowd(building, household), value[1])
    place, crowd = found[-1]
    return len(found) > len(value[1]) and any([lies_within(load, crowd) for load in loads[place]])


def is_below(number, most):
    """Whether a number of a box is at most another one."""
    return most == MANY or (number != MANY and number <= most)


def is_box_within(one, other):
    return all([is_below(number, most) for number, most in zip(one, other)])


def cut_boxes(box, household):
    """The greatest boxes within a box that do not have this household of it."""
    return [box[:at] + (household[at] - 1,) + box[at + 1:] for at in range(len(box)) if household[at] > 0]


def without_household(found, household):
    """The greatest boxes within some boxes in which no household has this one within it.

    A box that stays is within no part of another one, as it was not within that one.
    """
    staying = [box for box in found if not is_box_within(household, box)]
    parts = {part: True for box in found if is_box_within(household, box) for part in cut_boxes(box, household)}
    over = staying + list(parts)
    return staying + [part for part in parts
                      if not any([part != other and is_box_within(part, other) for other in over])]


def box_place(box):
    """What boxes are ordered by: many stands behind all wholes."""
    return tuple([(1, 0) if number == MANY else (0, number) for number in box])


def boxes(table):
    """The greatest boxes of households that cannot meet a table's loads."""
    check_table(table)
    found = [(MANY,) * len(kinds_of(table.building))]
    for household in least_households(table.closed):
        found = without_household(found, household)
    return sorted(found, key=box_place)


def still_safe(table, place, crowds):
    """Whether from none of these crowds at a place the loads can be met."""
    check_table(table)
    check_place(table.web, place)
    check_crowds(table.building, crowds)
    return all([table.closed.left_of(place, crowd) is None for crowd in crowds])
