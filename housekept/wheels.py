"""Wheels: what a calendar tells, told by the kinds of years."""
from housekept.buildings import is_name
from housekept.calendars import check_calendar, day_number, is_entry, mode_in
from housekept.days import KINDS, LAST, LENGTHS, check_date, date_at, days_ahead, days_to, is_date, is_date_number
from housekept.days import kind_of, weekday_of
from housekept.errors import BadHour, BadTable, BadWheel, TooMany
from housekept.shapes import is_ascending, is_between, is_tuple

FIRST = 2001
DATES = 400
PAIRS = 24


def month_days(leap):
    """The pairs (month, day) of a year."""
    return [(month + 1, day + 1) for month, length in enumerate(LENGTHS)
            for day in range(29 if leap and month == 1 else length)]


def kind_days(kind):
    """The pairs (month, day) of the days of a kind of years, each with its weekday."""
    first, word = kind
    return [(pair, (first + at) % 7) for at, pair in enumerate(month_days(word == "leap"))]


def is_long_plan(value):
    """Whether a value is a plan of a day with any hours."""
    if not is_tuple(value, 1, PAIRS) or not all([is_entry(pair) for pair in value]):
        return False
    if value[0][0] != 0 or not is_ascending([pair[0] for pair in value]):
        return False
    return all([value[at][1] != value[at + 1][1] for at in range(len(value) - 1)])


def is_special(value, days, week):
    """Whether a value is a pair of a day of a year and a plan that is not the week's."""
    if not is_tuple(value, 2, 2) or not is_tuple(value[0], 2, 2) or not all([type(part) is int for part in value[0]]):
        return False
    return value[0] in days and is_long_plan(value[1]) and value[1] != week[days[value[0]]]


def is_special_row(value, kind, week):
    """Whether a value tells the days of a kind of years with other plans than the week's."""
    days = {pair: weekday for pair, weekday in kind_days(kind)}
    if type(value) is not tuple or not all([is_special(item, days, week) for item in value]):
        return False
    return is_ascending([item[0] for item in value])


def week_of(rows):
    """For each weekday the plan that most of its days have, the least of several; rows: of pairs (weekday, plan)."""
    counts = [{} for _ in range(7)]
    for row in rows:
        for weekday, plan in row:
            lot = counts[weekday]
            lot[plan] = lot.get(plan, 0) + 1
    return tuple([min([(-number[told], told) for told in number])[1] for number in counts])


def year_plans(week, special, kind):
    """The pairs (weekday, plan) of all days of a kind of years."""
    plans = {pair: plan for pair, plan in special}
    return [(weekday, plans.get(pair, week[weekday])) for pair, weekday in kind_days(kind)]


def is_other_plan(value, years):
    """Whether a value is a pair of a date and a plan that week and kinds do not tell of it."""
    if not is_tuple(value, 2, 2) or not is_date(value[0]) or not is_long_plan(value[1]):
        return False
    return value[1] != years.plan_told(value[0])


def is_wheel(value):
    """Whether a value is a wheel."""
    if not is_tuple(value, 4, 4) or value[0] != "wheel":
        return False
    _, week, kinds, dates = value
    if not is_tuple(week, 7, 7) or not all([is_long_plan(plan) for plan in week]) or not is_tuple(kinds, 28, 28):
        return False
    if not all([is_special_row(row, kind, week) for row, kind in zip(kinds, KINDS)]):
        return False
    if week_of([year_plans(week, row, kind) for row, kind in zip(kinds, KINDS)]) != week:
        return False
    years = Years(("wheel", week, kinds, ()))
    if not is_tuple(dates, 0, DATES) or not all([is_other_plan(pair, years) for pair in dates]):
        return False
    return is_ascending([pair[0] for pair in dates])


def check_wheel(wheel):
    if not is_wheel(wheel):
        raise BadWheel("this is no wheel")


def plan_kind(year):
    """The place among KINDS of a year's kind."""
    return KINDS.index(kind_of(year))


class Years:
    """A wheel made ready to be asked for days."""

    def __init__(self, wheel):
        self.week = wheel[1]
        self.kinds = wheel[2]
        self.specials = {}
        self.dates = {date: plan for date, plan in wheel[3]}

    def special(self, at):
        """The other plans of a kind of years, by days."""
        if at not in self.specials:
            self.specials[at] = {pair: plan for pair, plan in self.kinds[at]}
        return self.specials[at]

    def plan_of(self, at, pair, weekday):
        """The plan of a day of a kind of years."""
        return self.special(at).get(pair, self.week[weekday])

    def plan_told(self, date):
        """The plan that week and kinds tell of a date."""
        year, month, day = date
        return self.plan_of(plan_kind(year), (month, day), weekday_of(days_to(year, month, day)))

    def plan(self, date):
        return self.dates[date] if date in self.dates else self.plan_told(date)


def wheel_from(rows, dated):
    """The wheel of 28 rows of plans, one for each day of the kinds of years, and of pairs (date, plan)."""
    days = [kind_days(kind) for kind in KINDS]
    told = [[(weekday, plan) for (_, weekday), plan in zip(lot, row)] for lot, row in zip(days, rows)]
    week = week_of(told)
    kinds = [tuple([(pair, plan) for (pair, weekday), plan in zip(lot, row) if plan != week[weekday]])
             for lot, row in zip(days, rows)]
    years = Years(("wheel", week, tuple(kinds), ()))
    return ("wheel", week, tuple(kinds), tuple([(date, plan) for date, plan in dated if plan != years.plan_told(date)]))


def rule_days(calendar):
    """The plans of the days that rules tell from 2001 to 2028, by the numbers of days."""
    found = {}
    for when, plan in calendar[2]:
        for year in range(FIRST - 1, FIRST + 29):
            number = day_number(when, year)
            if number is not None and number not in found:
                found[number] = plan
    return found


def wheel_of(calendar):
    """The wheel of a calendar."""
    check_calendar(calendar)
    told = rule_days(calendar)
    rows = []
    for at, kind in enumerate(KINDS):
        first = days_ahead(FIRST + at)
        rows.append([told.get(first + place, calendar[1][weekday])
                     for place, (_, weekday) in enumerate(kind_days(kind))])
    return wheel_from(rows, calendar[3])


def wheel_plan(wheel, date):
    """The plan that a wheel tells of a day."""
    check_wheel(wheel)
    check_date(date)
    return Years(wheel).plan(date)


def modes_of(wheel):
    """All modes of a wheel's plans, each once."""
    plans = list(wheel[1]) + [plan for row in wheel[2] for _, plan in row] + [plan for _, plan in wheel[3]]
    return list({mode: True for plan in plans for _, mode in plan})


def check_table_of_names(one, other, table):
    if type(table) is not dict:
        raise BadTable("this is no dict")
    pairs = [(mode, beside) for mode in modes_of(one) for beside in modes_of(other)]
    if not all([pair in table and is_name(table[pair]) for pair in pairs]):
        raise BadTable("not each pair of modes has a name")


def both_plans(plan, beside, table):
    """The plan of the names for the modes of two plans."""
    found = []
    for hour in sorted(set([begin for begin, _ in plan + beside])):
        name = table[(mode_in(plan, hour), mode_in(beside, hour))]
        if not found or found[-1][1] != name:
            found.append((hour, name))
    return tuple(found)


class Both:
    """The plans of two wheels as one, each pair of plans worked out once."""

    def __init__(self, one, other, table):
        self.one = Years(one)
        self.other = Years(other)
        self.table = table
        self.known = {}

    def plan(self, plan, beside):
        if (plan, beside) not in self.known:
            self.known[(plan, beside)] = both_plans(plan, beside, self.table)
        return self.known[(plan, beside)]

    def kind_plans(self, at):
        return [self.plan(self.one.plan_of(at, pair, weekday), self.other.plan_of(at, pair, weekday))
                for pair, weekday in kind_days(KINDS[at])]

    def dated(self):
        dates = sorted(set(list(self.one.dates) + list(self.other.dates)))
        return [(date, self.plan(self.one.plan(date), self.other.plan(date))) for date in dates]


def combined(one, other, table):
    """The wheel that has at each hour the name for the modes of two wheels."""
    check_wheel(one)
    check_wheel(other)
    check_table_of_names(one, other, table)
    both = Both(one, other, table)
    found = wheel_from([both.kind_plans(at) for at in range(len(KINDS))], both.dated())
    if len(found[3]) > DATES:
        raise TooMany(DATES)
    return found


class Search:
    """The first day from one on on which a test holds of the plans of some wheels."""

    def __init__(self, wheels, test):
        self.years = [Years(wheel) for wheel in wheels]
        self.test = test
        self.known = {}
        self.found = {}
        self.dates = sorted(set([date for years in self.years for date in years.dates]))

    def holds(self, plans):
        if plans not in self.known:
            test = self.test
            self.known[plans] = test(plans)
        return self.known[plans]

    def days(self, at):
        """The days of a kind of years on which the test holds, dates left out, ascending."""
        if at not in self.found:
            self.found[at] = [pair for pair, weekday in kind_days(KINDS[at])
                              if self.holds(tuple([years.plan_of(at, pair, weekday) for years in self.years]))]
        return self.found[at]

    def in_year(self, year, first, dated):
        """The first day of a year, from one on, None if there is none; dated are the dates of this year."""
        days = [pair for pair in self.days(plan_kind(year)) if pair >= first and (year,) + pair not in dated]
        days = days[:1] + [date[1:] for date in dated
                           if date[1:] >= first and self.holds(tuple([years.plan(date) for years in self.years]))]
        return (year,) + min(days) if days else None

    def first_day(self, date):
        """The first day from a date on, None if there is none."""
        by_year = {}
        for one in self.dates:
            by_year.setdefault(one[0], []).append(one)
        comes = any([self.days(at) for at in range(len(KINDS))])
        year, first = date[0], date[1:]
        while year is not None and year <= LAST:
            found = self.in_year(year, first, by_year.get(year, []))
            if found is not None:
                return found
            # Where no kind of years has such a day, only dates can be one.
            year = year + 1 if comes else min([one for one in by_year if one > year], default=None)
            first = (1, 1)
        return None


def unlike_hour(plan, beside):
    """The first hour at which two plans have unlike modes."""
    return [hour for hour in range(24) if mode_in(plan, hour) != mode_in(beside, hour)][0]


def first_unlike(one, other, date):
    """The first (date, hour) from a day on at which the modes of two wheels are unlike, None if there is none."""
    check_wheel(one)
    check_wheel(other)
    check_date(date)
    found = Search((one, other), lambda plans: plans[0] != plans[1]).first_day(date)
    if found is None:
        return None
    return (found, unlike_hour(Years(one).plan(found), Years(other).plan(found)))


def next_change(wheel, date, hour):
    """The first (date, hour) behind an hour at which the mode is not that of the hour ahead, None if there is none."""
    check_wheel(wheel)
    check_date(date)
    if not is_between(hour, 0, 23):
        raise BadHour("this is no hour")
    years = Years(wheel)
    plan = years.plan(date)
    later = [begin for begin, _ in plan if begin > hour]
    if later:
        return (date, later[0])
    number = days_to(date[0], date[1], date[2]) + 1
    if not is_date_number(number):
        return None
    mode = plan[-1][1]
    found = Search((wheel,), lambda plans: plans[0] != ((0, mode),)).first_day(date_at(number))
    if found is None:
        return None
    return (found, [begin for begin, name in years.plan(found) if name != mode][0])
