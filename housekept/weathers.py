"""Weathers: how warm and how cold rooms can become under a plan of settings."""
from housekept.air import check_air, is_setting_of, stepped_degrees
from housekept.errors import BadPlan, BadTicks, BadWeather
from housekept.shapes import is_between, is_row

SETTINGS = 40


def check_plan(air, plan):
    if not is_row(plan) or len(plan) > SETTINGS or not all([is_setting_of(air, setting) for setting in plan]):
        raise BadPlan("this is no list of at most 40 settings")


def firsts_of(air):
    return tuple([row[3] for row in air[1]])


def degrees_along(air, plan, course):
    """The degrees at first and behind each tick, of what is known to be right."""
    found = [firsts_of(air)]
    for setting, weather in zip(plan, course):
        found.append(stepped_degrees(air, found[-1], weather, setting))
    return found


def check_course(air, plan, course):
    if not is_row(course):
        raise BadWeather(0)
    least, most, ahead, move = air[5]
    for at, weather in enumerate(course):
        if at >= len(plan) or not is_between(weather, least, most) or abs(weather - ahead) > move:
            raise BadWeather(at + 1)
        ahead = weather
    if len(course) < len(plan):
        raise BadWeather(len(course) + 1)


def run_plan(air, plan, course):
    """The degrees at first and behind each tick of a plan under a course of weathers."""
    check_air(air)
    check_plan(air, plan)
    check_course(air, plan, course)
    return degrees_along(air, plan, course)


def coldest_course(air, ticks):
    least, _, first, move = air[5]
    return [max(least, first - move * (at + 1)) for at in range(ticks)]


def hottest_course(air, ticks):
    _, most, first, move = air[5]
    return [min(most, first + move * (at + 1)) for at in range(ticks)]


def check_air_ticks(air, ticks):
    check_air(air)
    if not is_between(ticks, 0, SETTINGS):
        raise BadTicks("this is no whole from 0 to 40")


def coldest(air, ticks):
    """The course that becomes as cold as can be, as soon as can be."""
    check_air_ticks(air, ticks)
    return coldest_course(air, ticks)


def hottest(air, ticks):
    """The course that becomes as hot as can be, as soon as can be."""
    check_air_ticks(air, ticks)
    return hottest_course(air, ticks)


def both_along(air, plan):
    """The degrees along the coldest and the hottest course: these two bound all others."""
    many = len(plan)
    return degrees_along(air, plan, coldest_course(air, many)), degrees_along(air, plan, hottest_course(air, many))


def extremes(air, plan):
    """For each moment the pairs (least, greatest) of the degrees of all rooms over all courses."""
    check_air(air)
    check_plan(air, plan)
    cold, hot = both_along(air, plan)
    return [tuple([(low, high) for low, high in zip(one, other)]) for one, other in zip(cold, hot)]


def are_in_bounds(air, degrees):
    return all([row[1] <= degree <= row[2] for row, degree in zip(air[1], degrees)])


def plan_broken(air, plan):
    """A shortest course that brings the degrees out of bounds, None if none does."""
    check_air(air)
    check_plan(air, plan)
    cold, hot = both_along(air, plan)
    for at in range(len(cold)):
        if not are_in_bounds(air, cold[at]):
            return coldest_course(air, at)
        if not are_in_bounds(air, hot[at]):
            return hottest_course(air, at)
    return None
