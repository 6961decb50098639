"""How long calls of a lift wait until its doors open there."""
from housekept.errors import BadFloor
from housekept.lifts import FIRST, TICK, check_floors, check_lift, check_stay, lift_web, stepped, walked
from housekept.shapes import is_between
from housekept.times import Openness


def marks_of(met, floor):
    """The marks of a call and of the doors that are open there, for the standings as they are met."""
    places = [at for at, standing in enumerate(met) if standing[0] == floor and standing[2] > 0]
    return (((), (("call", floor),)), (tuple(places), ()))


def call_marks(floors, stay, rule, floor):
    """The marks of a call from a floor, and of its answer."""
    check_lift(floors, stay, rule)
    if not is_between(floor, 0, floors - 1):
        raise BadFloor("this is no floor")
    return marks_of(walked(floors, stay, rule)[0], floor)


def call_waits(floors, stay, rule):
    """For each floor within how many ticks its calls are answered, None if for ever they are not."""
    check_lift(floors, stay, rule)
    met, _ = walked(floors, stay, rule)
    web = lift_web(floors, stay, rule)
    found = []
    for floor in range(floors):
        one, other = marks_of(met, floor)
        found.append(Openness(web, one, other).within())
    return tuple(found)


def greatest_wait(floors, stay, rule):
    """The greatest wait of all floors, None if one has none."""
    waits = call_waits(floors, stay, rule)
    return None if None in waits else max(waits)


def check_wide(floors, stay):
    check_floors(floors, 1000)
    check_stay(stay, 1000)


def collective_waits(floors, stay):
    """The waits of the collective rule by formula."""
    check_wide(floors, stay)
    most = [max(floor, floors - 1 - floor) for floor in range(floors)]
    return tuple([2 * way + (2 * way - 1) * stay for way in most])


def one_way_waits(floors, stay):
    """The waits of the rule of one way by formula."""
    check_wide(floors, stay)
    return ((floors - 1) * (2 + stay),) * floors


def held(floors, stay, rule):
    """At which floors a lift opens that is called from everywhere all the time: at first, and then for ever."""
    check_lift(floors, stay, rule)
    everywhere = tuple(range(floors))
    standing = FIRST[:3] + (everywhere,)
    met = {}
    opened = []
    while standing not in met:
        met[standing] = len(opened)
        floor, way, left, lit = stepped(floors, stay, rule, standing, TICK)
        if left == stay:
            opened.append(floor)
        open_at = floor if left > 0 else None
        standing = (floor, way, left, tuple([one for one in everywhere if one != open_at]))
    first = met[standing]
    return (opened[:first], opened[first:])
