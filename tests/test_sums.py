"""Sums, day by day and hour by hour, and over the years by their kinds."""
import unittest

import helper
from helper import put, seeded
from housekept import calendars, days, errors, sums, wheels
from test_wheels import DAY, LAST, NIGHT, SPLIT, constant, flat, later, random_calendar

FOUR = 146097


class Sums(unittest.TestCase):
    def test_day_by_day(self):
        rand = seeded(1)
        for _ in range(12):
            calendar = random_calendar(rand)
            wheel = wheels.wheel_of(calendar)
            mode = rand.choice("abcd")
            date = rand.choice([days.date_of(739000 + rand.randint(0, 4000)), (1, 1, 1), (2003, 12, 30), (10 ** 29, 11, 11)])
            ahead = 0
            for more in range(400):
                day = later(date, more)
                if more in (0, 1, 2, 60, 399):
                    self.assertEqual(sums.hours_of(wheel, mode, date, day), ahead)
                for hour, name in enumerate(flat(calendars.plan_on(calendar, day))):
                    if name == mode:
                        if rand.random() < 0.002:
                            self.assertEqual(sums.hour_of(wheel, mode, date, ahead), (day, hour))
                        ahead += 1

    def test_over_many_years(self):
        """The year's parts put together: from date to other by way of a third one; cycles of 400 years."""
        rand = seeded(2)
        for _ in range(15):
            wheel = wheels.wheel_of(random_calendar(rand))
            numbers = sorted(rand.randint(0, days.number_of((LAST, 12, 31))) for _ in range(3))
            one, two, three = [days.date_of(number) for number in numbers]
            whole = {mode: sums.hours_of(wheel, mode, one, three) for mode in "abc"}
            self.assertEqual(sum(whole.values()), 24 * (numbers[2] - numbers[0]))
            for mode in "abc":
                self.assertEqual(whole[mode], sums.hours_of(wheel, mode, one, two) + sums.hours_of(wheel, mode, two, three))
            # Without dates 400 years are as 400 others.
            bare = put(wheel, (3,), ())
            number = rand.randint(0, 10 ** 20)
            told = {sums.hours_of(bare, "a", days.date_of(at), days.date_of(at + FOUR)) for at in (0, number, 739000)}
            self.assertEqual(len(told), 1)
            cycles = rand.randint(1, 10 ** 20)
            self.assertEqual(sums.hours_of(bare, "a", (1, 1, 1), days.date_of(cycles * FOUR)), cycles * told.pop())

    def test_by_hand(self):
        wheel = constant(NIGHT, (("date", 2, 29), SPLIT), dates=[((2000, 2, 29), DAY), ((2026, 7, 7), DAY)])
        self.assertEqual(sums.hours_of(wheel, "day", (2026, 1, 1), (2027, 1, 1)), 24)
        self.assertEqual(sums.hours_of(wheel, "day", (2024, 1, 1), (2025, 1, 1)), 16)
        self.assertEqual(sums.hours_of(wheel, "day", (2000, 1, 1), (2001, 1, 1)), 24)
        # Equal days, the last day left out, the first one counted.
        self.assertEqual(sums.hours_of(wheel, "day", (2024, 2, 29), (2024, 2, 29)), 0)
        self.assertEqual(sums.hours_of(wheel, "day", (2024, 2, 28), (2024, 2, 29)), 0)
        self.assertEqual(sums.hours_of(wheel, "day", (2024, 2, 29), (2024, 3, 1)), 16)
        self.assertEqual(sums.hours_of(wheel, "never", (1, 1, 1), (LAST, 12, 31)), 0)
        leaps = LAST // 4 - LAST // 100 + LAST // 400
        self.assertEqual(sums.hours_of(wheel, "day", (1, 1, 1), (LAST, 12, 31)), 16 * leaps + 8 + 24)
        self.assertEqual(sums.hour_of(wheel, "day", (2024, 1, 1), 0), ((2024, 2, 29), 6))
        self.assertEqual(sums.hour_of(wheel, "day", (2024, 1, 1), 15), ((2024, 2, 29), 21))
        self.assertEqual(sums.hour_of(wheel, "day", (2024, 1, 1), 16), ((2026, 7, 7), 0))
        self.assertEqual(sums.hour_of(wheel, "day", (2024, 1, 1), 40), ((2028, 2, 29), 6))
        # The last hour there is, and n that is not there any more.
        many = sums.hours_of(wheel, "day", (LAST - 100, 1, 1), (LAST, 12, 31))
        self.assertEqual(sums.hour_of(wheel, "day", (LAST - 100, 1, 1), many - 1), ((LAST, 2, 29), 21))
        self.assertIsNone(sums.hour_of(wheel, "day", (LAST - 100, 1, 1), many))
        self.assertEqual(sums.hour_of(wheel, "night", (LAST, 12, 31), 23), ((LAST, 12, 31), 23))
        self.assertIsNone(sums.hour_of(wheel, "night", (LAST, 12, 31), 24))
        self.assertIsNone(sums.hour_of(wheel, "never", (1, 1, 1), 0))
        self.assertEqual(sums.hour_of(constant(NIGHT), "night", (1, 1, 1), LAST), (days.date_of(LAST // 24), LAST % 24))

    def test_largest(self):
        rand = seeded(3)
        dates = tuple(((rand.randint(1, 9) * 10 ** at % LAST + 1, 3, 1), DAY) for at in range(29))
        wheel = ("wheel", (NIGHT,) * 7, ((),) * 28, tuple(sorted(dict(dates).items())))
        self.assertIs(wheels.is_wheel(wheel), True)
        self.assertEqual(sums.hours_of(wheel, "day", (1, 1, 1), (LAST, 12, 31)), 24 * len(wheel[3]))
        for at in range(len(wheel[3])):
            self.assertEqual(sums.hour_of(wheel, "day", (1, 1, 1), 24 * at + 5), (wheel[3][at][0], 5))
        full = put(wheel, (3,), tuple(((at, 5, 5), DAY) for at in range(1, 401)))
        self.assertEqual(sums.hours_of(full, "day", (1, 1, 1), (LAST, 1, 1)), 24 * 400)
        self.assertEqual(sums.hour_of(full, "night", (1, 1, 1), LAST)[0][0] > 10 ** 25, True)

    def test_wrong(self):
        wheel = constant(SPLIT)
        date, other = (2026, 11, 20), (2026, 11, 19)
        for value in helper.any_values():
            for call in (sums.hours_of, sums.hour_of):
                with self.assertRaises(errors.BadWheel):
                    call(value, None, None, None)
            with self.assertRaises(errors.BadDate):
                sums.hours_of(wheel, "day", value, value)
            with self.assertRaises(errors.BadDate):
                sums.hours_of(wheel, "day", date, value)
            with self.assertRaises(errors.BadDate):
                sums.hour_of(wheel, "day", value, None)
        for mode in (None, "any", "Day", "", 1, "toolongaa", ["day"], True):
            for call in (sums.hours_of, sums.hour_of):
                with self.assertRaises(errors.BadMode):
                    call(wheel, mode, None, None)
        with self.assertRaises(errors.BadOrder):
            sums.hours_of(wheel, "day", date, other)
        for n in (-1, LAST + 1, True, None, "0"):
            with self.assertRaises(errors.BadCount):
                sums.hour_of(wheel, "day", date, n)


if __name__ == "__main__":
    unittest.main()
