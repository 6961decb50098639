"""Buildings: areas, doors with two sides, kinds of persons, and their rights."""
from housekept.errors import BadArea, BadBuilding, BadDoor, BadKind, BadSide
from housekept.shapes import are_unlike, is_among, is_ascending, is_between, is_tuple


def is_name(value):
    if type(value) is not str or not 1 <= len(value) <= 8 or value == "any":
        return False
    return all(["a" <= sign <= "z" for sign in value])


def are_names(value, least, most):
    """Whether a value is a tuple of unlike names, at least and at most so many."""
    if not is_tuple(value, least, most):
        return False
    return all([is_name(item) for item in value]) and are_unlike(value)


def is_door(value, areas):
    if not is_tuple(value, 4, 4) or not is_name(value[0]):
        return False
    if not is_among(value[1], areas) or not is_among(value[2], areas):
        return False
    return value[1] != value[2] and is_among(value[3], ("leaf", "gate"))


def are_doors(value, areas):
    if not is_tuple(value, 1, 6) or not all([is_door(item, areas) for item in value]):
        return False
    return are_unlike([item[0] for item in value])


def is_right(value, names, kinds):
    if not is_tuple(value, 3, 3):
        return False
    return is_among(value[0], kinds) and is_among(value[1], names) and is_between(value[2], 0, 1)


def are_rights(value, doors, kinds):
    names = [door[0] for door in doors]
    if type(value) is not tuple or not all([is_right(item, names, kinds) for item in value]):
        return False
    return is_ascending([(kinds.index(kind), names.index(door), side) for kind, door, side in value])


def is_building(value):
    if not is_tuple(value, 5, 5) or value[0] != "building":
        return False
    areas, doors, kinds, rights = value[1:]
    if not are_names(areas, 2, 6) or not are_doors(doors, areas):
        return False
    return are_names(kinds, 1, 3) and are_rights(rights, doors, kinds)


def areas_of(building):
    return building[1]


def inner_areas(building):
    return building[1][1:]


def doors_of(building):
    """The rows (name, area of side 0, area of side 1, sort) of the doors."""
    return building[2]


def door_names(building):
    return tuple([door[0] for door in building[2]])


def kinds_of(building):
    return building[3]


def rights_of(building):
    return building[4]


def side_area(building, door, side):
    """As area_at, of what is known to be right."""
    return building[2][door_names(building).index(door)][1 + side]


def check_building(building):
    if not is_building(building):
        raise BadBuilding("this is no building")


def check_area(building, area):
    if not is_among(area, areas_of(building)):
        raise BadArea("this is no area of the building")


def check_kind(building, kind):
    if not is_among(kind, kinds_of(building)):
        raise BadKind("this is no kind of the building")


def check_door(building, door):
    if not is_among(door, door_names(building)):
        raise BadDoor("this is no door of the building")


def check_side(side):
    if not is_between(side, 0, 1):
        raise BadSide("this is no side of a door")


def area_at(building, door, side):
    """The area at a side of a door."""
    check_building(building)
    check_door(building, door)
    check_side(side)
    return side_area(building, door, side)
