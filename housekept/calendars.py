"""Calendars: plans of days, by weekdays, rules and single dates."""
from housekept.buildings import is_name
from housekept.days import check_date, date_at, days_to, is_date, is_date_number, is_year, month_length, weekday_of
from housekept.errors import BadCalendar, BadHour, BadWhen, BadYear
from housekept.shapes import is_ascending, is_between, is_tuple

LEVELS = 4
LONGEST = (31, 29, 31, 30, 31, 30, 31, 31, 30, 31, 30, 31)


def is_entry(value):
    return is_tuple(value, 2, 2) and is_between(value[0], 0, 23) and is_name(value[1])


def is_plan(value):
    """Whether a value is a plan of a day: its first hour is 0, so that each hour has a mode."""
    if not is_tuple(value, 1, 6) or not all([is_entry(pair) for pair in value]):
        return False
    if value[0][0] != 0 or not is_ascending([pair[0] for pair in value]):
        return False
    return all([value[at][1] != value[at + 1][1] for at in range(len(value) - 1)])


def is_plain_when(value):
    """Whether a value is a when without another one in it."""
    if is_tuple(value, 3, 3) and value[0] == "date":
        return is_between(value[1], 1, 12) and is_between(value[2], 1, LONGEST[value[1] - 1])
    if is_tuple(value, 4, 4) and value[0] == "nth":
        among = is_between(value[3], 1, 5) or is_between(value[3], -1, -1)
        return is_between(value[1], 1, 12) and is_between(value[2], 0, 6) and among
    return False


def is_step(value, most):
    return is_between(value, -most, most) and value != 0


def is_when(value, levels):
    """Whether a value is a when nested up to so many levels."""
    if levels == 0:
        return False
    if is_tuple(value, 3, 3) and value[0] == "shift":
        return is_when(value[1], levels - 1) and is_step(value[2], 40)
    if is_tuple(value, 4, 4) and value[0] == "moved":
        return is_when(value[1], levels - 1) and is_between(value[2], 0, 6) and is_step(value[3], 6)
    return is_plain_when(value)


def nth_day(when, year):
    """The number of the n-th weekday of a month, None if there is none."""
    _, month, weekday, n = when
    first = days_to(year, month, 1)
    length = month_length(year, month)
    ahead = (weekday - weekday_of(first)) % 7
    if n == -1:
        return first + ahead + (length - 1 - ahead) // 7 * 7
    day = ahead + 7 * (n - 1)
    return first + day if day < length else None


def day_number(when, year):
    """The number of a when's day of a year, None if there is none; it may be that of no date."""
    word = when[0]
    if word == "date":
        return days_to(year, when[1], when[2]) if when[2] <= month_length(year, when[1]) else None
    if word == "nth":
        return nth_day(when, year)
    number = day_number(when[1], year)
    if number is None:
        return None
    if word == "shift":
        return number + when[2]
    return number + when[3] if weekday_of(number) == when[2] else number


def told_day(when, year):
    """The date of a when's day of a year, None if there is none."""
    if not is_when(when, LEVELS):
        raise BadWhen("this is no when")
    if not is_year(year):
        raise BadYear("this is no year")
    number = day_number(when, year)
    return date_at(number) if is_date_number(number) else None


def tells(when, date):
    """Whether a date is a when's day of some year: such a day lies within less than a year of its own."""
    number = days_to(date[0], date[1], date[2])
    return number in [day_number(when, year) for year in range(date[0] - 1, date[0] + 2)]


def is_rule(value):
    return is_tuple(value, 2, 2) and is_when(value[0], LEVELS) and is_plan(value[1])


def is_dated(value):
    return is_tuple(value, 2, 2) and is_date(value[0]) and is_plan(value[1])


def is_calendar(value):
    """Whether a value is a calendar."""
    if not is_tuple(value, 4, 4) or value[0] != "calendar":
        return False
    week, rules, dates = value[1:]
    if not is_tuple(week, 7, 7) or not all([is_plan(plan) for plan in week]):
        return False
    if not is_tuple(rules, 0, 8) or not all([is_rule(rule) for rule in rules]):
        return False
    if not is_tuple(dates, 0, 8) or not all([is_dated(pair) for pair in dates]):
        return False
    return is_ascending([pair[0] for pair in dates])


def check_calendar(calendar):
    if not is_calendar(calendar):
        raise BadCalendar("this is no calendar")


def day_plan(calendar, date):
    """As plan_on, of what is known to be right."""
    _, week, rules, dates = calendar
    for one, plan in dates:
        if one == date:
            return plan
    for when, plan in rules:
        if tells(when, date):
            return plan
    return week[weekday_of(days_to(date[0], date[1], date[2]))]


def plan_on(calendar, date):
    """The plan of a day: that of its date, of the first rule that tells it, or of its weekday."""
    check_calendar(calendar)
    check_date(date)
    return day_plan(calendar, date)


def mode_in(plan, hour):
    """The mode of an hour in a plan."""
    return [mode for begin, mode in plan if begin <= hour][-1]


def mode_at(calendar, date, hour):
    """The mode of an hour of a day."""
    check_calendar(calendar)
    check_date(date)
    if not is_between(hour, 0, 23):
        raise BadHour("this is no hour")
    return mode_in(day_plan(calendar, date), hour)
