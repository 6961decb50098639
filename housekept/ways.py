"""Ways from area to area through doors that are free."""
from housekept.buildings import areas_of, check_area, check_building, door_names, doors_of
from housekept.errors import BadDoors, NoWay, SameArea
from housekept.shapes import are_unlike, is_among, is_row, lots_below


def check_free(building, free):
    names = door_names(building)
    if not is_row(free) or not all([is_among(item, names) for item in free]) or not are_unlike(free):
        raise BadDoors("this is no list of unlike doors")


def steps_from(building, free, area):
    """The free doors at an area, in order, each with the area behind it."""
    steps = []
    for name, one, other, _ in doors_of(building):
        if name in free and area == one:
            steps.append((name, other))
        elif name in free and area == other:
            steps.append((name, one))
    return steps


def reached_from(building, free, area):
    """All areas to which free doors lead from an area, in the building's order."""
    reached = [area]
    at = 0
    while at < len(reached):
        here = reached[at]
        for _, behind in steps_from(building, free, here):
            if behind not in reached:
                reached.append(behind)
        at += 1
    return [item for item in areas_of(building) if item in reached]


def all_ways(building, free, area, other):
    """All ways in order, each with its areas, both ends too: lists of pairs (doors, areas)."""
    found = []
    layer = [([], [area])]
    # Each layer stands in the order of ways, as it goes on in order from the one ahead.
    while layer:
        found = found + [way for way in layer if way[1][-1] == other]
        going = [way for way in layer if way[1][-1] != other]
        layer = [(doors + [name], met + [behind]) for doors, met in going
                 for name, behind in steps_from(building, free, met[-1]) if behind not in met]
    return found


def areas_joined(building, free):
    """As joined, of what is known to be right."""
    groups = []
    for area in areas_of(building):
        group = tuple(reached_from(building, free, area))
        if group not in groups:
            groups.append(group)
    return groups


def joined(building, free):
    """The tuples of the areas among which there are ways."""
    check_building(building)
    check_free(building, free)
    return areas_joined(building, free)


def least_way(building, free, area, other):
    check_building(building)
    check_free(building, free)
    check_area(building, area)
    check_area(building, other)
    found = all_ways(building, free, area, other)
    return found[0][0] if found else None


def check_ends(building, free, area, other):
    check_building(building)
    check_free(building, free)
    check_area(building, area)
    check_area(building, other)
    if area == other:
        raise SameArea("the two areas are the same")


def disjoint_ways(ways, many):
    """The first so many ways of which no two have a common door, None if there are none."""
    if many == 0:
        return []
    for at in range(len(ways)):
        rest = [way for way in ways[at + 1:] if not any([door in ways[at] for door in way])]
        found = disjoint_ways(rest, many - 1)
        if found is not None:
            return [ways[at]] + found
    return None


def parting(building, free, area, other):
    """A least cut, and as many ways without a common door: that there are so many is Menger's theorem."""
    check_ends(building, free, area, other)
    ways = [doors for doors, _ in all_ways(building, free, area, other)]
    names = [name for name in door_names(building) if name in free]
    for lot in lots_below(len(names)):
        cut = [names[at] for at in lot]
        if all([any([door in cut for door in way]) for way in ways]):
            return (cut, disjoint_ways(ways, len(cut)))
    return None


def narrows(building, free, area, other):
    """The areas between two areas that all ways have: any way has them in the same order."""
    check_ends(building, free, area, other)
    found = all_ways(building, free, area, other)
    if not found:
        raise NoWay("there is no way between the two areas")
    between = found[0][1][1:-1]
    return tuple([item for item in between if all([item in met for _, met in found])])
