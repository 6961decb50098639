"""Sums: for how many hours a mode lasts, over any number of years."""
from housekept.buildings import is_name
from housekept.days import KINDS, LAST, check_date, date_at, days_ahead, days_to, kind_of
from housekept.errors import BadCount, BadMode, BadOrder
from housekept.shapes import is_between
from housekept.wheels import Years, check_wheel, kind_days

CYCLE = 400
MOST = 10 ** 30


def hours_in(plan, mode):
    """How many hours of a day have a mode."""
    ends = [begin for begin, _ in plan[1:]] + [24]
    return sum([end - begin for (begin, name), end in zip(plan, ends) if name == mode])


def hours_with(plan, mode):
    """The hours of a day that have a mode, ascending."""
    ends = [begin for begin, _ in plan[1:]] + [24]
    return [hour for (begin, name), end in zip(plan, ends) if name == mode for hour in range(begin, end)]


class Hours:
    """How many hours have a mode from the first day of all up to others: years come again after 400."""

    def __init__(self, wheel, mode):
        self.years = Years(wheel)
        self.mode = mode
        # For each kind of years the hours up to each of its days, and to its end.
        self.kinds = [self.sums_of(at) for at in range(len(KINDS))]
        self.places = [KINDS.index(kind_of(year)) for year in range(1, CYCLE + 1)]
        self.whole = [0]
        for at in self.places:
            self.whole.append(self.whole[-1] + self.kinds[at][-1])
        self.dated = [(date, hours_in(plan, mode) - hours_in(self.years.plan_told(date), mode))
                      for date, plan in wheel[3]]

    def sums_of(self, at):
        found = [0]
        known = {}
        for pair, weekday in kind_days(KINDS[at]):
            plan = self.years.plan_of(at, pair, weekday)
            if plan not in known:
                known[plan] = hours_in(plan, self.mode)
            found.append(found[-1] + known[plan])
        return found

    def up_to(self, number):
        """The hours of all days ahead of the day with a number."""
        date = date_at(number)
        cycles, left = (date[0] - 1) // CYCLE, (date[0] - 1) % CYCLE
        day = number - days_ahead(date[0])
        told = cycles * self.whole[-1] + self.whole[left] + self.kinds[self.places[left]][day]
        return told + sum([more for one, more in self.dated if one < date])


def check_mode(mode):
    if not is_name(mode):
        raise BadMode("this is no name of a mode")


def number_for(date):
    return days_to(date[0], date[1], date[2])


def hours_of(wheel, mode, date, other):
    """How many hours of the days from a date up to another one have a mode."""
    check_wheel(wheel)
    check_mode(mode)
    check_date(date)
    check_date(other)
    if other < date:
        raise BadOrder("the other date stands ahead")
    hours = Hours(wheel, mode)
    return hours.up_to(number_for(other)) - hours.up_to(number_for(date))


def hour_of(wheel, mode, date, n):
    """The (date, hour) of a mode with just n such hours ahead of it from a date on, None if there is none."""
    check_wheel(wheel)
    check_mode(mode)
    check_date(date)
    if not is_between(n, 0, MOST):
        raise BadCount("this is no whole from 0 to 10 ** 30")
    hours = Hours(wheel, mode)
    low, end = number_for(date), days_ahead(LAST + 1)
    ahead = hours.up_to(low) + n
    if hours.up_to(end) <= ahead:
        return None
    # Up to low there are at most so many hours ahead, up to the end there are more.
    high = end
    while high - low > 1:
        middle = (low + high) // 2
        if hours.up_to(middle) <= ahead:
            low = middle
        else:
            high = middle
    found = date_at(low)
    return (found, hours_with(hours.years.plan(found), mode)[ahead - hours.up_to(low)])
