"""Days and calendars, against counts from day to day."""
import datetime
import itertools
import unittest

from helper import seeded
from housekept import calendars, days, errors

LAST = 10 ** 30
WORK, REST, LONG = ((0, "night"), (8, "day"), (18, "night")), ((0, "night"),), ((0, "night"), (7, "day"), (23, "late"))
WEEK = (WORK,) * 5 + (REST, REST)
LENGTHS = {True: [31, 29, 31, 30, 31, 30, 31, 31, 30, 31, 30, 31], False: [31, 28, 31, 30, 31, 30, 31, 31, 30, 31, 30, 31]}


def leap(year):
    return year % 400 == 0 if year % 100 == 0 else year % 4 == 0


def count(first, years):
    """All dates of some years, day by day."""
    for year in range(first, first + years):
        for month, length in enumerate(LENGTHS[leap(year)]):
            for day in range(length):
                yield (year, month + 1, day + 1)


class Days(unittest.TestCase):
    def test_from_day_to_day(self):
        for number, date in enumerate(count(1, 801)):
            self.assertEqual(days.number_of(date), number)
            self.assertEqual(days.date_of(number), date)

    def test_against_datetime(self):
        rand = seeded(1)
        for _ in range(2000):
            day = datetime.date.fromordinal(rand.randint(1, datetime.date.max.toordinal()))
            self.assertEqual(days.number_of((day.year, day.month, day.day)), day.toordinal() - 1)
            self.assertEqual(days.date_of(day.toordinal() - 1), (day.year, day.month, day.day))
            word = "leap" if leap(day.year) else "behind" if leap(day.year - 1) else "ahead" if leap(day.year + 1) else "plain"
            self.assertEqual(days.kind_of(day.year), (datetime.date(day.year, 1, 1).weekday(), word))

    def test_far_years(self):
        """400 years have 146097 days, so 10 ** 30 years have as many in all."""
        end = LAST // 400 * 146097 - 1
        self.assertEqual(days.number_of((LAST, 12, 31)), end)
        self.assertEqual(days.date_of(end), (LAST, 12, 31))
        self.assertEqual(days.date_of(end - 366), (LAST - 1, 12, 31))
        for back, date in enumerate(reversed(list(count(LAST - 9, 10)))):
            self.assertEqual((days.number_of(date), days.date_of(end - back)), (end - back, date))

    def test_kinds(self):
        self.assertEqual(len(set(days.KINDS)), 28)
        self.assertEqual(list(days.KINDS), [days.kind_of(year) for year in range(2001, 2029)])
        self.assertEqual(days.kind_of(1), (0, "behind"))
        self.assertEqual([days.kind_of(year)[1] for year in (4, 99, 100, 101, 103, 399, 400, 401)],
                         ["leap", "plain", "plain", "plain", "ahead", "ahead", "leap", "behind"])
        self.assertEqual(days.kind_of(LAST), ((LAST // 400 * 146097 - 366) % 7, "leap"))
        self.assertEqual(days.kind_of(LAST - 1)[1], "ahead")
        rows = [days.kind_of(year) for year in range(1, 900)]
        for kind in days.KINDS:
            places = [at for at, one in enumerate(rows) if one == kind]
            self.assertTrue(all(other - one <= 40 for one, other in zip([-1] + places, places)), kind)

    def test_wrong(self):
        for date in [None, (), [1, 1, 1], (0, 1, 1), (LAST + 1, 1, 1), (1, 0, 1), (1, 13, 1), (1, 1, 0), (1, 1, 32), (1, 2, 29),
                     (100, 2, 29), (1900, 2, 29), (4, 2, 30), (True, 1, 1), (1, True, 1), (1, 1, True), (1, 4, 31), (1, 1),
                     (1, 1, 1, 1), ("1", 1, 1), (-1, 1, 1)]:
            with self.assertRaises(errors.BadDate):
                days.number_of(date)
        for number in [None, -1, True, "1", LAST // 400 * 146097, (0,), []]:
            with self.assertRaises(errors.BadNumber):
                days.date_of(number)
        for year in [None, 0, -1, LAST + 1, True, "1", [1]]:
            with self.assertRaises(errors.BadYear):
                days.kind_of(year)


class Whens(unittest.TestCase):
    def second(self, when, year, table):
        """The place in a table of all days of some years, None if there is none."""
        if when[0] == "date":
            return table.get((year,) + when[1:])
        if when[0] == "nth":
            month = [(date, at) for date, at in table.items() if date[:2] == (year, when[1]) and at % 7 == when[2]]
            month = [at for _, at in sorted(month)]
            return (month[-1] if when[3] == -1 else month[when[3] - 1]) if when[3] <= len(month) else None
        place = self.second(when[1], year, table)
        if place is None:
            return None
        if when[0] == "shift":
            return place + when[2]
        return place + when[3] if place % 7 == when[2] else place

    def random_when(self, rand, levels):
        word = rand.choice(["date", "nth"] + (["shift", "moved"] * 3 if levels > 1 else []))
        if word == "date":
            month = rand.choice([1, 2, 2, 12, rand.randint(1, 12)])
            return (word, month, rand.randint(1, LENGTHS[True][month - 1]))
        if word == "nth":
            return (word, rand.randint(1, 12), rand.randint(0, 6), rand.choice([1, 2, 3, 4, 5, 5, -1]))
        inner = self.random_when(rand, levels - 1)
        if word == "shift":
            return (word, inner, rand.choice([-40, -1, 1, 40, rand.randint(1, 40)]))
        return (word, inner, rand.randint(0, 6), rand.choice([-6, -1, 1, 6]))

    def test_against_days_counted(self):
        rand = seeded(2)
        table = {date: at for at, date in enumerate(count(1, 12))}
        dates = list(table)
        seen = {None: 0, -1: 0, 0: 0, 1: 0}
        for _ in range(1500):
            when, year = self.random_when(rand, 4), rand.randint(2, 11)
            place = self.second(when, year, table)
            want = None if place is None else dates[place]
            self.assertEqual(calendars.told_day(when, year), want, (when, year))
            seen[None if want is None else want[0] - year] += 1
        self.assertGreater(min(seen.values()), 20)

    def test_by_hand(self):
        self.assertEqual(calendars.told_day(("date", 2, 29), 2024), (2024, 2, 29))
        self.assertIsNone(calendars.told_day(("date", 2, 29), 2023))
        # May 2026 begins with a Friday: it has five of these, and five Sundays, and four Mondays.
        self.assertEqual(calendars.told_day(("nth", 5, 4, 5), 2026), (2026, 5, 29))
        self.assertEqual(calendars.told_day(("nth", 5, 6, -1), 2026), (2026, 5, 31))
        self.assertIsNone(calendars.told_day(("nth", 5, 0, 5), 2026))
        self.assertEqual(calendars.told_day(("nth", 5, 0, -1), 2026), (2026, 5, 25))
        self.assertEqual(calendars.told_day(("shift", ("date", 1, 1), -1), 2026), (2025, 12, 31))
        self.assertEqual(calendars.told_day(("shift", ("date", 12, 31), 40), 2026), (2027, 2, 9))
        # Christmas 2027 is a Saturday.
        self.assertEqual(calendars.told_day(("moved", ("date", 12, 25), 5, 2), 2027), (2027, 12, 27))
        self.assertEqual(calendars.told_day(("moved", ("date", 12, 25), 5, 2), 2026), (2026, 12, 25))
        self.assertIsNone(calendars.told_day(("shift", ("date", 1, 1), -1), 1))
        self.assertIsNone(calendars.told_day(("shift", ("date", 12, 31), 1), LAST))
        self.assertEqual(calendars.told_day(("shift", ("date", 12, 31), -1), LAST), (LAST, 12, 30))

    def test_wrong(self):
        plain = ("date", 1, 1)
        good = ("shift", ("moved", ("shift", plain, 40), 6, -6), -40)
        calendars.told_day(good, 1)
        wrong = [None, (), [], ("date", 1), ("date", 0, 1), ("date", 13, 1), ("date", 1, 32), ("date", 2, 30), ("date", 4, 31),
                 ("date", 1, 0), ["date", 1, 1], ("date", True, 1), ("date", 1, True), ("nth", 1, 7, 1), ("nth", 1, -1, 1),
                 ("nth", 1, 0, 0), ("nth", 1, 0, 6), ("nth", 1, 0, -2), ("nth", 0, 0, 1), ("nth", 1, 0, True), ("nth", 1, 0),
                 ("shift", plain, 0), ("shift", plain, 41), ("shift", plain, -41), ("shift", plain, True), ("shift", None, 1),
                 ("shift", list(plain), 1), ("moved", plain, 7, 1), ("moved", plain, 0, 0), ("moved", plain, 0, 7),
                 ("moved", plain, 0, -7), ("moved", plain, 0), ("moved", plain, False, 1), ("day", 1, 1), ("shift", good, 1)]
        for when in wrong:
            with self.assertRaises(errors.BadWhen):
                calendars.told_day(when, None)
        for year in [None, 0, LAST + 1, True]:
            with self.assertRaises(errors.BadYear):
                calendars.told_day(plain, year)


def calendar(rules=(), dates=(), week=WEEK):
    return ("calendar", week, rules, dates)


class Calendars(unittest.TestCase):
    def test_against_days_counted(self):
        rand, whens = seeded(3), Whens()
        table = {date: at for at, date in enumerate(count(1, 14))}
        plans = [WORK, REST, LONG, ((0, "x"), (1, "y"), (2, "x"), (3, "y"), (4, "x"), (23, "y"))]
        ruled = 0
        for _ in range(25):
            rules = tuple((whens.random_when(rand, 4), rand.choice(plans)) for _ in range(rand.randint(0, 8)))
            dates = tuple((date, rand.choice(plans)) for date in sorted(rand.sample(list(table)[800:4000], rand.randint(0, 8))))
            one = calendar(rules, dates, tuple(rand.choice(plans) for _ in range(7)))
            self.assertIs(calendars.is_calendar(one), True)
            told = [{whens.second(when, year, table) for year in range(1, 14)} for when, _ in rules]
            for date, at in list(table.items())[800:4000:3]:
                want = dict(dates).get(date)
                if want is None:
                    fit = [plan for (_, plan), lot in zip(rules, told) if at in lot]
                    ruled += bool(fit)
                    want = fit[0] if fit else one[1][at % 7]
                self.assertEqual(calendars.plan_on(one, date), want)
                hour = rand.randint(0, 23)
                self.assertEqual(calendars.mode_at(one, date, hour), [mode for begin, mode in want if begin <= hour][-1])
        self.assertGreater(ruled, 200)

    def test_years_outside(self):
        """A day of the year 0, or of 10 ** 30 + 1, can tell a date, too."""
        early = calendar(((("shift", ("date", 12, 31), 1), LONG), (("shift", ("date", 1, 1), -1), LONG)))
        self.assertEqual(calendars.plan_on(early, (1, 1, 1)), LONG)
        self.assertEqual(calendars.plan_on(early, (1, 1, 2)), WORK)
        self.assertEqual(calendars.plan_on(early, (LAST, 12, 31)), LONG)
        # 29 February of the year 0, a leap year, and 307 days more.
        far = ("shift", ("shift", ("shift", ("date", 12, 29), 1), 1), 1)
        self.assertEqual(calendars.plan_on(calendar(((far, LONG),)), (1, 1, 1)), LONG)

    def test_hours(self):
        one = calendar()
        self.assertEqual([calendars.mode_at(one, (2026, 11, 20), hour) for hour in (0, 7, 8, 17, 18, 23)],
                         ["night", "night", "day", "day", "night", "night"])
        self.assertEqual(calendars.mode_at(one, (2026, 11, 21), 12), "night")

    def test_forms(self):
        plans = [None, (), [(0, "x")], ((1, "x"),), ((0, "x"), (0, "y")), ((0, "x"), (5, "x")), ((0, "x"), (24, "y")),
                 ((0, "x"), (5, "y"), (4, "x")), ((0, "any"),), ((0, "X"),), ((False, "x"),), ((0, "x", 1),), ([0, "x"],),
                 tuple((hour, "xy"[hour % 2]) for hour in range(7)), (("0", "x"),)]
        for plan in plans:
            for wrong in (calendar(week=(plan,) + WEEK[1:]), calendar(rules=((("date", 1, 1), plan),)),
                          calendar(dates=(((1, 1, 1), plan),))):
                self.assertIs(calendars.is_calendar(wrong), False, plan)
        self.assertIs(calendars.is_calendar(calendar(week=(plans[13][:6],) * 7)), True)
        rule, dated = (("date", 1, 1), REST), ((1, 1, 1), REST)
        self.assertIs(calendars.is_calendar(calendar((rule,) * 8, tuple(((1, 1, day), REST) for day in range(1, 9)))), True)
        wrong = [None, calendar((rule,) * 9), calendar((), (dated, dated)), calendar((), (((1, 1, 2), REST), dated)),
                 calendar([rule]), calendar((), [dated]), calendar(week=WEEK[1:]), calendar(week=WEEK + (REST,)),
                 calendar(week=list(WEEK)), ["calendar", WEEK, (), ()], ("calendar", WEEK, ()), ("calender", WEEK, (), ()),
                 calendar((), (((1, 2, 29), REST),)), calendar((), tuple(((1, 1, day), REST) for day in range(1, 10))),
                 calendar(((None, REST),)), calendar((("date", 1, 1),))]
        for value in wrong:
            self.assertIs(calendars.is_calendar(value), False, value)
            with self.assertRaises(errors.BadCalendar):
                calendars.plan_on(value, None)
        with self.assertRaises(errors.BadDate):
            calendars.mode_at(calendar(), None, None)
        for hour in [None, -1, 24, True, "1", (0,)]:
            with self.assertRaises(errors.BadHour):
                calendars.mode_at(calendar(), (1, 1, 1), hour)

    def test_whens_four_and_five_levels_deep(self):
        when = ("date", 6, 15)
        for level, good in itertools.zip_longest(range(4), (True, True, True, False)):
            when = ("shift", when, 1)
            self.assertIs(calendars.is_calendar(calendar(((when, REST),))), good, level)


if __name__ == "__main__":
    unittest.main()
