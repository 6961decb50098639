"""Wheels against calendars asked day by day and hour by hour."""
import unittest

import helper
from helper import nodes, put, seeded
from housekept import calendars, days, errors, wheels

LAST = 10 ** 30
DAY, NIGHT = ((0, "day"),), ((0, "night"),)
SPLIT = ((0, "night"), (6, "day"), (22, "night"))


def random_plan(rand, modes="abc", most=3):
    hours = sorted(rand.sample(range(1, 24), rand.randint(0, most)))
    rows = [(0, rand.choice(modes))]
    for hour in hours:
        rows.append((hour, rand.choice([mode for mode in modes if mode != rows[-1][1]])))
    return tuple(rows)


def random_when(rand, levels=3):
    share = rand.random()
    if levels > 1 and share < 0.25:
        return ("shift", random_when(rand, levels - 1), rand.choice([-40, -3, 1, 20, 40]))
    if levels > 1 and share < 0.5:
        return ("moved", random_when(rand, levels - 1), rand.randint(0, 6), rand.choice([-6, -2, 1, 6]))
    if share < 0.75:
        month = rand.randint(1, 12)
        return ("date", 2, 29) if rand.random() < 0.3 else ("date", month, rand.randint(1, calendars.LONGEST[month - 1]))
    return ("nth", rand.randint(1, 12), rand.randint(0, 6), rand.choice([1, 2, 3, 4, 5, -1]))


def random_calendar(rand, modes="abc", dates=4):
    few = [random_plan(rand, modes) for _ in range(2)]
    lot = {(rand.choice([1, 4, 400, 2004, 2026, LAST, rand.randint(1, LAST)]), rand.randint(1, 12), rand.randint(1, 28))
           for _ in range(rand.randint(0, dates))}
    return ("calendar", tuple(rand.choice(few) for _ in range(7)),
            tuple((random_when(rand), random_plan(rand, modes)) for _ in range(rand.randint(0, 5))),
            tuple((date, rand.choice(few)) for date in sorted(lot)))


def random_date(rand):
    end = days.number_of((LAST, 12, 31))
    spots = [rand.randint(0, 3000), rand.randint(0, end), end - rand.randint(0, 800), 739000 + rand.randint(-40000, 40000)]
    return days.date_of(rand.choice(spots))


def later(date, many=1):
    return days.date_of(days.number_of(date) + many)


def flat(plan):
    """The mode of each hour."""
    return [calendars.mode_in(plan, hour) for hour in range(24)]


def constant(plan, *rules, dates=()):
    return wheels.wheel_of(("calendar", (plan,) * 7, tuple(rules), tuple(dates)))


class Wheels(unittest.TestCase):
    def test_wheel_tells_what_the_calendar_tells(self):
        rand = seeded(1)
        for _ in range(25):
            calendar = random_calendar(rand)
            wheel = wheels.wheel_of(calendar)
            self.assertIs(wheels.is_wheel(wheel), True)
            for date in [random_date(rand) for _ in range(25)] + [date for date, _ in calendar[3]]:
                self.assertEqual(wheels.wheel_plan(wheel, date), calendars.plan_on(calendar, date))

    def test_form(self):
        """Week, kinds and dates counted day by day from 2001 to 2028."""
        rand = seeded(2)
        for _ in range(6):
            calendar = random_calendar(rand)
            bare = calendar[:3] + ((),)
            counts = [{} for _ in range(7)]
            rows = []
            for year in range(2001, 2029):
                row = {}
                date = (year, 1, 1)
                while date[0] == year:
                    weekday = days.number_of(date) % 7
                    row[date] = (weekday, calendars.plan_on(bare, date))
                    counts[weekday][row[date][1]] = counts[weekday].get(row[date][1], 0) + 1
                    date = later(date)
                rows.append(row)
            week = tuple(min(plan for plan in lot if lot[plan] == max(lot.values())) for lot in counts)
            kinds = tuple(tuple((date[1:], plan) for date, (weekday, plan) in row.items() if plan != week[weekday]) for row in rows)
            dates = tuple(pair for pair in calendar[3] if pair[1] != calendars.plan_on(bare, pair[0]))
            self.assertEqual(wheels.wheel_of(calendar), ("wheel", week, kinds, dates))

    def test_of_several_the_least(self):
        """Two plans on as many Mondays: the least one is the week's."""
        # By their numbers, in 28 years there are 1461 days of each weekday: an odd number, so three plans are needed.
        wheel = constant(NIGHT)
        self.assertEqual(wheel, ("wheel", (NIGHT,) * 7, ((),) * 28, ()))
        mondays = [[pair for pair, weekday in wheels.kind_days(kind) if weekday == 0] for kind in days.KINDS]
        whole = [(at, pair) for at, row in enumerate(mondays) for pair in row]
        self.assertEqual(len(whole), 1461)
        made = {key: DAY if at < 700 else NIGHT if at < 1400 else SPLIT for at, key in enumerate(whole)}
        kinds = tuple(tuple((pair, made[(at, pair)]) for pair in row if made[(at, pair)] != DAY) for at, row in enumerate(mondays))
        week = (DAY,) + (NIGHT,) * 6
        self.assertIs(wheels.is_wheel(("wheel", week, kinds, ())), True)
        other = tuple(tuple((pair, made[(at, pair)]) for pair in row if made[(at, pair)] != NIGHT) for at, row in enumerate(mondays))
        self.assertIs(wheels.is_wheel(("wheel", (NIGHT,) * 7, other, ())), False)

    def test_heart(self):
        """Calendars with the same plans on all days have equal wheels, and no others."""
        plan = SPLIT
        whens = [(("date", 12, 25), ("shift", ("date", 12, 24), 1)), (("nth", 5, 0, 1), ("moved", ("nth", 5, 0, 1), 3, 2)),
                 (("date", 3, 1), ("moved", ("date", 3, 1), 0, 1))]
        one = constant(NIGHT, (whens[0][0], plan))
        self.assertEqual(one, constant(NIGHT, (whens[0][1], plan)))
        self.assertEqual(constant(NIGHT, (whens[1][0], plan)), constant(NIGHT, (whens[1][1], plan)))
        self.assertNotEqual(constant(NIGHT, (whens[2][0], plan)), constant(NIGHT, (whens[2][1], plan)))
        # A date that tells what is told anyway, rules in another order, a rule that never counts.
        self.assertEqual(one, constant(NIGHT, (whens[0][0], plan), dates=[((5, 12, 25), plan), ((6, 1, 1), NIGHT)]))
        self.assertEqual(constant(NIGHT, (("date", 1, 1), DAY), (("date", 7, 1), plan)),
                         constant(NIGHT, (("date", 7, 1), plan), (("date", 1, 1), DAY), (("date", 7, 1), DAY)))
        self.assertNotEqual(one, constant(NIGHT, (whens[0][0], plan), dates=[((5, 12, 25), DAY)]))
        rand = seeded(3)
        for _ in range(15):
            calendar = random_calendar(rand)
            other = rand.choice([put(calendar, (1, 0), random_plan(rand)), calendar[:2] + (calendar[2][::-1],) + calendar[3:],
                                 calendar[:3] + ((),)])
            one, two = wheels.wheel_of(calendar), wheels.wheel_of(other)
            first = wheels.first_unlike(one, two, (1, 1, 1))
            self.assertIs(first is None, one == two)
            if first is not None:
                self.assertNotEqual(calendars.mode_at(calendar, *first), calendars.mode_at(other, *first))

    def test_is_wheel(self):
        wheel = constant(NIGHT, (("date", 2, 29), DAY), (("nth", 3, 0, 1), SPLIT), dates=[((2004, 2, 29), SPLIT)])
        self.assertIs(wheels.is_wheel(wheel), True)
        leap = [at for at, kind in enumerate(days.KINDS) if kind[1] == "leap"][0]
        self.assertEqual(wheel[2][leap][0], ((2, 29), DAY))
        wrong = [put(wheel, (0,), "Wheel"), put(wheel, (1,), wheel[1][:6]), put(wheel, (2,), wheel[2][:27]), wheel[:3],
                 put(wheel, (1, 0), DAY), put(wheel, (2, leap, 0, 1), NIGHT), put(wheel, (2, leap, 0, 0), (2, 30)),
                 put(wheel, (2, leap, 0, 0), (True, 29)), put(wheel, (2, leap), wheel[2][leap][::-1]),
                 put(wheel, (2, leap), wheel[2][leap] * 2), put(wheel, (2, 0, 0, 0), (2, 29)), put(wheel, (3,), wheel[3] * 2),
                 put(wheel, (3, 0, 1), DAY), put(wheel, (3, 0, 0), (2003, 2, 29)), put(wheel, (3, 0, 0), (0, 1, 1)),
                 put(wheel, (1, 3), ((1, "night"),)), put(wheel, (1, 3), ((0, "night"), (3, "night"))), put(wheel, (1, 3), ()),
                 put(wheel, (2, leap, 0, 1), ((0, "day"), (24, "night"))), put(wheel, (2, leap, 0, 1), ((0, "any"),)),
                 put(wheel, (2, leap, 0, 1), ((0, "day"), (5, "night"), (4, "day")))]
        for value in wrong + helper.any_values():
            self.assertIs(wheels.is_wheel(value), False)
            with self.assertRaises(errors.BadWheel):
                wheels.wheel_plan(value, None)
        for path, item in nodes(wheel):
            if type(item) is tuple:
                self.assertIs(wheels.is_wheel(put(wheel, path, list(item))), False)

    def test_long_plans(self):
        hours = tuple((hour, "ab"[hour % 2]) for hour in range(24))
        wheel = ("wheel", (hours,) * 7, ((),) * 28, ())
        self.assertIs(wheels.is_wheel(wheel), True)
        self.assertIs(wheels.is_wheel(put(wheel, (1, 0), hours + ((24, "a"),))), False)
        for hour in range(24):
            self.assertEqual(wheels.next_change(wheel, (LAST, 12, 30), hour),
                             ((LAST, 12, 30), hour + 1) if hour < 23 else ((LAST, 12, 31), 0))
        self.assertIsNone(wheels.next_change(wheel, (LAST, 12, 31), 23))

    def test_four_hundred_dates(self):
        dates = tuple(((1000 + at, 3, 1), DAY) for at in range(401))
        wheel = ("wheel", (NIGHT,) * 7, ((),) * 28, dates[:400])
        self.assertIs(wheels.is_wheel(wheel), True)
        self.assertIs(wheels.is_wheel(put(wheel, (3,), dates)), False)
        one, other = put(wheel, (3,), dates[:300]), put(wheel, (3,), dates[200:400])
        table = {(a, b): a + b for a in ("day", "night") for b in ("day", "night")}
        table = {pair: name[:8] for pair, name in table.items()}
        both = wheels.combined(one, other, table)
        self.assertEqual(len(both[3]), 400)
        self.assertIs(wheels.is_wheel(both), True)
        with self.assertRaises(errors.TooMany) as caught:
            wheels.combined(one, put(wheel, (3,), dates[200:]), table)
        self.assertEqual(caught.exception.most, 400)
        # Dates that are no others behind all do not count.
        self.assertEqual(wheels.combined(one, put(wheel, (3,), dates[200:]), {pair: "same" for pair in table}),
                         ("wheel", (((0, "same"),),) * 7, ((),) * 28, ()))

    def test_combined(self):
        rand = seeded(4)
        for _ in range(12):
            one, other = random_calendar(rand, "ab"), random_calendar(rand, "bcd")
            table = {(a, b): rand.choice("xyz") for a in "ab" for b in "bcd"}
            table["more"] = None
            first, second = wheels.wheel_of(one), wheels.wheel_of(other)
            both = wheels.combined(first, second, table)
            self.assertIs(wheels.is_wheel(both), True)
            for date in [random_date(rand) for _ in range(15)] + [date for date, _ in one[3] + other[3]]:
                modes = zip(flat(calendars.plan_on(one, date)), flat(calendars.plan_on(other, date)))
                self.assertEqual(flat(wheels.wheel_plan(both, date)), [table[pair] for pair in modes])

    def test_wrong_tables(self):
        wheel = constant(SPLIT)
        table = {(a, b): "x" for a in ("day", "night") for b in ("day", "night")}
        wheels.combined(wheel, wheel, table)
        few = {pair: table[pair] for pair in list(table)[1:]}
        for wrong in [few, {**table, ("day", "day"): "any"}, {**table, ("day", "day"): None}, {**table, ("day", "day"): "X"},
                      list(table), None, (), {}]:
            with self.assertRaises(errors.BadTable):
                wheels.combined(wheel, wheel, wrong)
        with self.assertRaises(errors.BadWheel):
            wheels.combined(wheel, None, None)

    def test_first_unlike(self):
        rand = seeded(5)
        seen = 0
        for _ in range(25):
            one = random_calendar(rand, "ab", 2)
            other = one[:2] + ((one[2] + ((random_when(rand), random_plan(rand, "ab")),))[-3:],) + one[3:]
            first, second = wheels.wheel_of(one), wheels.wheel_of(other)
            date = days.date_of(739000 + rand.randint(0, 4000))
            want = None
            for more in range(500):
                day = later(date, more)
                hours = [hour for hour, (a, b) in enumerate(zip(flat(calendars.plan_on(one, day)), flat(calendars.plan_on(other, day))))
                         if a != b]
                if hours:
                    want = (day, hours[0])
                    break
            found = wheels.first_unlike(first, second, date)
            if want is not None:
                self.assertEqual(found, want)
                seen += 1
            else:
                self.assertTrue(found is None or days.number_of(found[0]) >= days.number_of(date) + 500)
        self.assertGreater(seen, 8)

    def test_first_unlike_far_away(self):
        night = constant(NIGHT)
        leap = constant(NIGHT, (("date", 2, 29), SPLIT))
        self.assertEqual(wheels.first_unlike(night, leap, (2096, 2, 29)), ((2096, 2, 29), 6))
        self.assertEqual(wheels.first_unlike(night, leap, (2096, 3, 1)), ((2104, 2, 29), 6))
        self.assertIsNone(wheels.first_unlike(night, leap, (LAST, 3, 1)))
        self.assertEqual(wheels.first_unlike(leap, night, (LAST, 2, 1)), ((LAST, 2, 29), 6))
        self.assertIsNone(wheels.first_unlike(night, night, (1, 1, 1)))
        # A leap year that begins with a Monday, and 29 February only then.
        rare = put(leap, (2,), tuple(row if days.KINDS[at] == (0, "leap") else () for at, row in enumerate(leap[2])))
        self.assertIs(wheels.is_wheel(rare), True)
        self.assertEqual(wheels.first_unlike(night, rare, (1997, 1, 1)), ((2024, 2, 29), 6))
        masked = put(rare, (3,), tuple(((year, 2, 29), NIGHT) for year in (2024, 2052, 2080)))
        self.assertIs(wheels.is_wheel(masked), True)
        self.assertEqual(wheels.first_unlike(night, masked, (1997, 1, 1)), ((2120, 2, 29), 6))
        far = put(night, (3,), (((10 ** 29, 5, 5), DAY), ((10 ** 30, 1, 1), DAY)))
        self.assertEqual(wheels.first_unlike(night, far, (7, 7, 7)), ((10 ** 29, 5, 5), 0))
        self.assertEqual(wheels.first_unlike(far, night, (10 ** 29, 5, 6)), ((10 ** 30, 1, 1), 0))
        self.assertIsNone(wheels.first_unlike(far, night, (10 ** 30, 1, 2)))
        # Both with the same date: like there, whatever week and kinds tell.
        two = put(leap, (3,), (((2096, 2, 29), DAY),))
        self.assertEqual(wheels.first_unlike(put(night, (3,), (((2096, 2, 29), DAY),)), two, (2096, 1, 1)), ((2104, 2, 29), 6))

    def test_next_change(self):
        rand = seeded(6)
        for _ in range(30):
            calendar = random_calendar(rand, "ab", 2)
            if rand.random() < 0.5:
                calendar = calendar[:1] + ((random_plan(rand, "ab", 0),) * 7,) + calendar[2:]
            wheel = wheels.wheel_of(calendar)
            date, hour = days.date_of(739000 + rand.randint(0, 4000)), rand.randint(0, 23)
            hours = [(date, at) for at in range(24)]
            mode, want = calendars.mode_at(calendar, date, hour), None
            for more in range(900):
                day = later(date, more)
                for at, name in enumerate(flat(calendars.plan_on(calendar, day))):
                    if want is None and (more, at) > (0, hour) and name != mode:
                        want = (day, at)
                if want:
                    break
            found = wheels.next_change(wheel, date, hour)
            if want is None:
                self.assertTrue(found is None or days.number_of(found[0]) >= days.number_of(date) + 900)
            else:
                self.assertEqual(found, want)
            self.assertEqual(len(hours), 24)

    def test_next_change_far_away(self):
        leap = constant(NIGHT, (("date", 2, 29), SPLIT), dates=[((10 ** 29, 1, 1), DAY)])
        self.assertEqual(wheels.next_change(leap, (2096, 2, 29), 22), ((2104, 2, 29), 6))
        self.assertEqual(wheels.next_change(leap, (2096, 2, 29), 5), ((2096, 2, 29), 6))
        self.assertIsNone(wheels.next_change(leap, (LAST, 2, 29), 22))
        self.assertIsNone(wheels.next_change(constant(NIGHT), (1, 1, 1), 0))
        one = constant(NIGHT, dates=[((10 ** 29, 12, 31), DAY)])
        self.assertEqual(wheels.next_change(one, (1, 1, 1), 0), ((10 ** 29, 12, 31), 0))
        self.assertEqual(wheels.next_change(one, (10 ** 29, 12, 31), 0), ((10 ** 29 + 1, 1, 1), 0))
        self.assertIsNone(wheels.next_change(one, (10 ** 29 + 1, 1, 1), 0))
        for hour in (-1, 24, True, None, "0"):
            with self.assertRaises(errors.BadHour):
                wheels.next_change(leap, (1, 1, 1), hour)
        with self.assertRaises(errors.BadDate):
            wheels.next_change(leap, (2001, 2, 29), None)

    def test_largest(self):
        """Four hundred dates that mask all that is unlike, over thousands of years."""
        night = constant(NIGHT)
        leap = constant(NIGHT, (("date", 2, 29), DAY))
        years = [year for year in range(1, 1700) if days.is_leap(year)][:400]
        masked = put(leap, (3,), tuple(((year, 2, 29), NIGHT) for year in years))
        self.assertIs(wheels.is_wheel(masked), True)
        found = wheels.first_unlike(masked, night, (1, 1, 1))
        self.assertEqual(found, ((next(year for year in range(years[-1] + 1, 2000) if days.is_leap(year)), 2, 29), 0))
        hours = tuple((hour, "ab"[hour % 2]) for hour in range(24))
        full = ("wheel", (hours,) * 7, ((),) * 28, ())
        both = wheels.combined(masked, full, {(a, b): a[0] + b for a in ("day", "night") for b in "ab"})
        self.assertEqual(len(both[3]), 400)


if __name__ == "__main__":
    unittest.main()
