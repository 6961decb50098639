"""Whereabouts, against all placements from moment to moment."""
import itertools
import unittest

import helper
from helper import PLAIN, TEXT, counting, seeded
from housekept import errors, logs, rules, whereabouts
from test_logs import HOUR, OPEN, Second, samples

DEAF = ("log", (("ann", "guest"), ("bob", "staff")), ("eye", "dull"), (
    (("button", 0), None), (("pass", "front", 0), None), (("button", 1), None), (("card", "inner", 1, "guest"), 0),
    (("pass", "inner", 1), None)))
CALLS = [(whereabouts.placements, ()), (whereabouts.may, (0,)), (whereabouts.may_so_far, (0,)), (whereabouts.together, (0, 1))]


class Plain:
    """The forward and backward lots of a log, by single steps."""

    def __init__(self, text, log):
        self.text, self.log = text, log
        _, persons, eyes, rows = log
        self.second = Second(text, eyes, [signal for signal, _ in rows])
        self.whos = [who for _, who in rows]
        self.many = len(persons)
        self.forward = self.second.moments(self.many, self.whos)
        self.areas = text[1][1]

    def index(self):
        return None if len(self.forward) > len(self.whos) else len(self.forward) - 1

    def order(self, lot):
        return sorted(lot, key=lambda row: [self.areas.index(area) for area in row])

    def every(self):
        return list(itertools.product(self.areas, repeat=self.many))

    def is_bar(self, person, moment, area, value):
        """[133] rule by rule, of lists of lists of placements."""
        ahead, back = value
        if ("out",) * self.many not in ahead[0] or not all(row in back[-1] for row in self.every()):
            return False
        for at, sheet in enumerate(ahead):
            if not self.second.closed(at, set(sheet)) <= set(sheet):
                return False
            if at < moment and not all(behind in ahead[at + 1] for row in sheet for behind in self.second.behind(at, row, self.whos[at])):
                return False
        for place in range(len(back) - 1):
            at = moment + place
            for row in self.every():
                leads = any(not self.second.closed(at + 1, {behind}).isdisjoint(back[place + 1])
                            for behind in self.second.behind(at, row, self.whos[at]))
                if leads and row not in back[place]:
                    return False
        return not any(row[person] == area for row in ahead[-1] if row in back[0])


class Whereabouts(unittest.TestCase):
    def test_against_all_placements(self):
        seen = {"must": 0, "may": 0, "never": 0, "none": 0, "less": 0}
        for rand, text, log in samples(11, 220):
            plain = Plain(text, log)
            _, persons, _, rows = log
            if plain.index() is not None:
                seen["none"] += 1
                for call, more in CALLS:
                    with self.assertRaises(errors.NoCourse) as caught:
                        call(text, log, *more, len(rows))
                    self.assertEqual(caught.exception.index, plain.index())
                continue
            whole = plain.second.whole(len(persons), plain.whos)
            for moment in range(len(rows) + 1):
                found = whereabouts.placements(text, log, moment)
                self.assertEqual(found, plain.order(whole[moment]))
                for person in range(len(persons)):
                    areas = tuple(area for area in text[1][1] if any(row[person] == area for row in found))
                    self.assertEqual(whereabouts.may(text, log, person, moment), areas)
                    ahead = tuple(area for area in text[1][1] if any(row[person] == area for row in plain.forward[moment]))
                    self.assertEqual(whereabouts.may_so_far(text, log, person, moment), ahead)
                    short = log[:3] + (rows[:moment],)
                    self.assertEqual(whereabouts.may(text, short, person, moment), ahead)
                    seen["less"] += areas != ahead
                one, other = rand.randrange(len(persons)), rand.randrange(len(persons))
                same = {row[one] == row[other] for row in found}
                want = "may" if len(same) == 2 else "must" if True in same else "never"
                self.assertEqual(whereabouts.together(text, log, one, other, moment), want)
                seen[want] += one != other
                self.check_courses(rand, text, log, plain, moment, whole[moment])
        never = seen.pop("never")
        self.assertGreater(min(seen.values()), 30, seen)
        self.assertGreater(never, 2)

    def check_courses(self, rand, text, log, plain, moment, lot):
        rows = plain.every()
        for placement in rand.sample(rows, min(6, len(rows))) + rand.sample(sorted(lot), min(3, len(lot))):
            course = whereabouts.course_with(text, log, moment, placement)
            self.assertIs(course is None, placement not in lot)
            if course is not None:
                self.assertIs(logs.is_course(text, log, course), True)
                self.assertEqual(logs.placed(text, log, course)[moment], placement)

    def test_bars(self):
        seen = {True: 0, False: 0}
        for rand, text, log in samples(12, 60):
            plain = Plain(text, log)
            _, persons, _, rows = log
            if plain.index() is not None or len(text[1][1]) ** len(persons) > 130:
                continue
            moment, person = rand.randint(0, len(rows)), rand.randrange(len(persons))
            may = whereabouts.may(text, log, person, moment)
            for area in text[1][1]:
                bar = whereabouts.bar(text, log, person, moment, area)
                self.assertIs(bar is None, area in may)
                if bar is None:
                    continue
                ahead, back = bar
                self.assertEqual((len(ahead), len(back)), (moment + 1, len(rows) - moment + 1))
                self.assertIs(plain.is_bar(person, moment, area, bar), True)
                self.assertIs(whereabouts.is_bar(text, log, person, moment, area, bar), True)
                turned = (tuple(tuple(sheet[::-1]) for sheet in ahead), tuple(sheet * 2 for sheet in back))
                self.assertIs(whereabouts.is_bar(text, log, person, moment, area, turned), True)
                for _ in range(5):
                    value = self.changed(rand, plain, bar)
                    right = plain.is_bar(person, moment, area, value)
                    self.assertIs(whereabouts.is_bar(text, log, person, moment, area, value), right)
                    seen[right] += 1
        self.assertGreater(min(seen.values()), 25, seen)

    def changed(self, rand, plain, bar):
        """A bar with a placement left out or put in."""
        parts = [[list(sheet) for sheet in part] for part in bar]
        sheet = rand.choice(rand.choice(parts))
        if sheet and rand.random() < 0.6:
            sheet.pop(rand.randrange(len(sheet)))
        else:
            sheet.append(rand.choice(plain.every()))
        return tuple(parts)

    def test_no_bar_where_somebody_may_be(self):
        """Whatever is put on the sheets: what is true cannot be barred."""
        log = DEAF
        every = list(itertools.product(("out", "hall", "lab"), repeat=2))
        for moment in range(6):
            for area in whereabouts.may(HOUR, log, 0, moment):
                self.assertIsNone(whereabouts.bar(HOUR, log, 0, moment, area))
                for sheets in (every, []):
                    value = ([sheets] * (moment + 1), [every] * (6 - moment))
                    self.assertIs(whereabouts.is_bar(HOUR, log, 0, moment, area, value), False)

    def test_by_hand(self):
        self.assertEqual([whereabouts.may(HOUR, DEAF, 0, moment) for moment in range(6)],
                         [("out",), ("out",), ("hall",), ("lab",), ("lab",), ("hall", "lab")])
        self.assertEqual(whereabouts.may_so_far(HOUR, DEAF, 0, 2), ("out", "hall"))
        self.assertEqual(whereabouts.may(HOUR, DEAF, 1, 3), ("out",))
        self.assertEqual(whereabouts.placements(HOUR, DEAF, 3), [("lab", "out")])
        self.assertEqual(whereabouts.together(HOUR, DEAF, 0, 1, 0), "must")
        self.assertEqual(whereabouts.together(HOUR, DEAF, 0, 1, 5), "never")
        self.assertEqual(whereabouts.together(HOUR, DEAF, 1, 1, 5), "must")
        course = whereabouts.course_with(HOUR, DEAF, 3, ("lab", "out"))
        self.assertEqual(logs.placed(HOUR, DEAF, course)[3], ("lab", "out"))
        self.assertIsNone(whereabouts.course_with(HOUR, DEAF, 3, ("lab", "lab")))
        empty = DEAF[:3] + ((),)
        self.assertEqual(whereabouts.placements(HOUR, empty, 0), [("out", "out")])
        self.assertEqual(whereabouts.bar(HOUR, empty, 0, 0, "out"), None)
        ahead, back = whereabouts.bar(HOUR, empty, 0, 0, "lab")
        self.assertEqual((ahead, sorted(back[0])), ([[("out", "out")]], sorted(itertools.product(("out", "hall", "lab"), repeat=2))))

    def test_logs_without_a_pass(self):
        """[133] (G1): all combinations of what the single persons may be."""
        many = 0
        for _, text, log in samples(13, 200):
            log = log[:3] + (tuple(row for row in log[3] if row[0][0] != "pass"),)
            if logs.first_impossible(text, log) is None:
                for moment in range(len(log[3]) + 1):
                    areas = [whereabouts.may(text, log, person, moment) for person in range(len(log[1]))]
                    self.assertEqual(whereabouts.placements(text, log, moment), list(itertools.product(*areas)))
                    many += any(len(lot) > 1 for lot in areas)
        self.assertGreater(many, 20)

    def test_errors_in_their_order(self):
        """Behind BadLog TooLong, then NoCourse, also where another error is due."""
        none = DEAF[:3] + (((("pass", "front", 0), None),),)
        long = counting("b", 1023)
        slow = ("log", (("ann", "guest"),), ("dull",), ((("button", 0), None), (("pass", "door", 1), None)))
        calls = [(whereabouts.placements, 1, [errors.BadMoment]), (whereabouts.may, 2, [errors.BadPerson, errors.BadMoment]),
                 (whereabouts.may_so_far, 2, [errors.BadPerson, errors.BadMoment]),
                 (whereabouts.course_with, 2, [errors.BadMoment, errors.BadPlacement]),
                 (whereabouts.together, 3, [errors.BadPerson, errors.BadPerson, errors.BadMoment]),
                 (whereabouts.bar, 3, [errors.BadPerson, errors.BadMoment, errors.BadArea]),
                 (whereabouts.is_bar, 3, [errors.BadPerson, errors.BadMoment, errors.BadArea])]
        for call, many, named in calls:
            rest = (None,) if call is whereabouts.is_bar else ()
            for value in (None, True, -1, "no", [[]], 7, {}):
                with self.assertRaises(errors.BadText):
                    call(value, value, *[value] * many, *rest)
                with self.assertRaises(errors.BadLog):
                    call(HOUR, value, *[value] * many, *rest)
                with self.assertRaises(errors.NoCourse) as caught:
                    call(HOUR, none, *[value] * many, *rest)
                self.assertEqual(caught.exception.index, 0)
                with self.assertRaises(errors.TooLong) as caught:
                    call(long, slow, *[value] * many, *rest)
                self.assertEqual(caught.exception.most, 1000)
                right = [0, ("lab", "out")] if call is whereabouts.course_with else [0] * (many - 1) + ["lab" if errors.BadArea in named else 0]
                for at, error in enumerate(named):
                    with self.assertRaises(error):
                        call(HOUR, DEAF, *right[:at], *[value] * (many - at), *rest)
                    with self.assertRaises(error):
                        call(HOUR, DEAF, *right[:at], value, *right[at + 1:], *rest)
        for value in (("lab",), ("lab", "out", "out"), ["lab", "out"], ("lab", "any"), ("lab", None), ()):
            with self.assertRaises(errors.BadPlacement):
                whereabouts.course_with(HOUR, DEAF, 3, value)
        for value in helper.any_values():
            self.assertIs(whereabouts.is_bar(HOUR, DEAF, 0, 3, "hall", value), False)
        self.assertEqual(PLAIN[0], "text")

    def test_wrong_bars(self):
        ahead, back = whereabouts.bar(HOUR, DEAF, 0, 3, "hall")
        right = lambda value: whereabouts.is_bar(HOUR, DEAF, 0, 3, "hall", value)
        self.assertIs(right((ahead, back)), True)
        for value in [[ahead, back], (ahead,), (ahead, back, back), (ahead[1:], back), (ahead, back[1:]), (ahead + [[]], back), (ahead, back + [[]]),
                      ([list(map(list, sheet)) for sheet in ahead], back), (ahead, [None] + back[1:]), ([[None]] + ahead[1:], back),
                      (ahead, back[:-1] + [back[-1][1:]]), ([[]] + ahead[1:], back), (ahead, back[:-1] + [[("out", "any")] + back[-1]]),
                      (ahead, {0: back[0], 1: back[1], 2: back[2]})]:
            self.assertIs(right(value), False)

    def test_largest(self):
        """Four persons, six areas, forty rows."""
        persons = tuple((name, "xy"[at % 2]) for at, name in enumerate(("ann", "bob", "cy", "dee")))
        rows = [(("button", 0), None)]
        for at in range(39):
            rows.append(((("pass", "pqrstu"[at % 6], at % 2), None), (("card", "pqrstu"[at % 6], 0, "x"), 0), (("tick",), None))[at % 3])
        log = ("log", persons, ("dull",) * 6, tuple(rows))
        self.assertEqual(len(whereabouts.placements(OPEN, log, 40)), 6 ** 4)
        self.assertEqual(whereabouts.together(OPEN, log, 0, 3, 20), "may")
        found = whereabouts.placements(OPEN, log, 17)
        placement = found[len(found) // 2]
        course = whereabouts.course_with(OPEN, log, 17, placement)
        self.assertEqual(logs.placed(OPEN, log, course)[17], placement)
        watched = ("log", persons, ("eye",) * 6, tuple(rows[:1] + [row for row in rows[1:] if row[0][0] == "tick"]))
        bar = whereabouts.bar(OPEN, watched, 2, 5, "c")
        self.assertIs(whereabouts.is_bar(OPEN, watched, 2, 5, "c", bar), True)
        self.assertIsNone(whereabouts.bar(OPEN, log, 2, 5, "c"))
        self.assertEqual(len(rules.signals(TEXT)), len(set(rules.signals(TEXT))))
        self.assertIsNot(seeded(1), seeded(1))


if __name__ == "__main__":
    unittest.main()
