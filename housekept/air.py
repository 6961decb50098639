"""Air: rooms with degrees, leaks between them and to the outside, heaters, and the weather."""
from housekept.buildings import is_name
from housekept.errors import BadAir, BadDegrees, BadSetting, BadWeather
from housekept.shapes import are_unlike, are_wholes, is_among, is_ascending, is_between, is_tuple

OUT = "out"


def is_room(value):
    if not is_tuple(value, 4, 4) or not is_name(value[0]) or value[0] == OUT or not are_wholes(value[1:], -40, 40):
        return False
    low, high, first = value[1:]
    return low <= first <= high <= low + 8


def are_rooms(value):
    if not is_tuple(value, 1, 3) or not all([is_room(row) for row in value]):
        return False
    return are_unlike([row[0] for row in value])


def is_leak(value, names, whole):
    if not is_tuple(value, 4, 4) or not is_among(value[0], names) or not is_between(value[2], 1, whole):
        return False
    if not is_among(value[1], names) and value[1] != OUT:
        return False
    return value[0] != value[1] and (value[3] is None or is_name(value[3]))


def are_leaks(value, names, whole):
    if not is_tuple(value, 0, 6) or not all([is_leak(row, names, whole) for row in value]):
        return False
    if not are_unlike([(area, other, door) for area, other, _, door in value]):
        return False
    return all([sum([row[2] for row in value if row[0] == name]) <= whole for name in names])


def is_heater(value, names):
    if not is_tuple(value, 3, 3) or not is_name(value[0]) or not is_among(value[1], names):
        return False
    return is_between(value[2], -60, 60) and value[2] != 0


def are_heaters(value, names):
    if not is_tuple(value, 0, 3) or not all([is_heater(row, names) for row in value]):
        return False
    return are_unlike([row[0] for row in value])


def is_weather(value):
    if not is_tuple(value, 4, 4) or not are_wholes(value, -40, 40):
        return False
    least, most, first, move = value
    return least <= first <= most <= least + 8 and 0 <= move <= 8


def is_air(value):
    if not is_tuple(value, 6, 6) or value[0] != "air" or not are_rooms(value[1]) or not is_between(value[2], 1, 12):
        return False
    names = [row[0] for row in value[1]]
    return are_leaks(value[3], names, value[2]) and are_heaters(value[4], names) and is_weather(value[5])


def are_named(value, names):
    """Whether a value is an ascending tuple of some of the names."""
    return type(value) is tuple and all([is_among(item, names) for item in value]) and is_ascending(value)


def is_setting_of(air, value):
    if not is_tuple(value, 2, 2):
        return False
    doors = [row[3] for row in air[3] if row[3] is not None]
    return are_named(value[0], [row[0] for row in air[4]]) and are_named(value[1], doors)


def check_air(air):
    if not is_air(air):
        raise BadAir("this is no air")


def is_setting(air, value):
    check_air(air)
    return is_setting_of(air, value)


def check_degrees(air, degrees):
    many = len(air[1])
    if not is_tuple(degrees, many, many) or not are_wholes(degrees, -1000, 1000):
        raise BadDegrees("this is no tuple of one whole a room")


def next_degrees(air, degrees, weather, setting):
    """The degrees behind a tick under a weather and a setting, all at once."""
    check_air(air)
    check_degrees(air, degrees)
    if not is_between(weather, air[5][0], air[5][1]):
        raise BadWeather(0)
    if not is_setting_of(air, setting):
        raise BadSetting("this is no setting of the air")
    return stepped_degrees(air, degrees, weather, setting)


def stepped_degrees(air, degrees, weather, setting):
    """As next_degrees, of what is known to be right."""
    on, free = setting
    around = {row[0]: degree for row, degree in zip(air[1], degrees)}
    around[OUT] = weather
    found = []
    for row in air[1]:
        area = row[0]
        leaks = [leak for leak in air[3] if leak[0] == area and (leak[3] is None or leak[3] in free)]
        flows = sum([share * around[other] for _, other, share, _ in leaks])
        kept = around[area] * (air[2] - sum([leak[2] for leak in leaks]))
        gains = sum([gain for name, there, gain in air[4] if there == area and name in on])
        found.append((flows + kept + gains) // air[2])
    return tuple(found)
