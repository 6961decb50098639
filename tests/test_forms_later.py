"""Values near to right ones, as in test_forms, for the files behind guarded.py."""
import unittest

import helper
import test_forms
from helper import HOUSE, TEXT
from housekept import (calendars, days, errors, lifts, machines, marks, mirrors, modes, panels, papers, safe, times, trees,
                       unseen, wheels, whereabouts)
from test_forms import either, exact, many, name, rising, whole, word
from test_logs import HOUR
from test_marks import open_meetings
from test_papers import is_plain_paper
from test_safe import Silent, is_within
from test_wheels import NIGHT, SPLIT, constant
from test_whereabouts import DEAF, Plain
from test_wrong import AIR, LOADS, TABLE, WEB

TICK = ("tick",)


def asks(call, error):
    """Whether a call lets a value by."""
    def question(value):
        try:
            call(value)
        except error:
            return False
        return True
    return question


def is_plan(value):
    return many(exact(whole(0, 23), name), 1, 24)(value) and value[0][0] == 0 and rising([hour for hour, _ in value]) and all(
        one[1] != other[1] for one, other in zip(value, value[1:]))


def year_days(year):
    """The pairs (month, day) of a year, each with its weekday."""
    first = days.number_of((year, 1, 1))
    last = days.number_of((year, 12, 31))
    return {days.date_of(number)[1:]: number % 7 for number in range(first, last + 1)}


YEARS = [year_days(year) for year in range(2001, 2029)]


def is_plain_wheel(value):
    """[103], with all days from 2001 to 2028 counted."""
    special = exact(exact(whole(1, 12), whole(1, 31)), is_plan)
    if not exact(word("wheel"), many(is_plan, 7, 7), many(many(special, 0, 366), 28, 28), many(lambda one: True, 0, 400))(value):
        return False
    _, week, kinds, dates = value
    counts = [{} for _ in range(7)]
    for row, known in zip(kinds, YEARS):
        if not rising([pair for pair, _ in row]) or any(pair not in known or plan == week[known[pair]] for pair, plan in row):
            return False
        for pair, weekday in known.items():
            plan = dict(row).get(pair, week[weekday])
            counts[weekday][plan] = counts[weekday].get(plan, 0) + 1
    if any(plan != min(one for one in lot if lot[one] == max(lot.values())) for plan, lot in zip(week, counts)):
        return False
    for pair in dates:
        if type(pair) is not tuple or len(pair) != 2 or not is_date(pair[0]) or not is_plan(pair[1]):
            return False
        row = dict(kinds[days.KINDS.index(days.kind_of(pair[0][0]))])
        if pair[1] == row.get(pair[0][1:], week[days.number_of(pair[0]) % 7]):
            return False
    return rising([date for date, _ in dates])


def is_date(value):
    if not exact(whole(1, 10 ** 30), whole(1, 12), whole(1, 31))(value):
        return False
    leap = value[0] % 4 == 0 and (value[0] % 100 != 0 or value[0] % 400 == 0)
    return value[2] <= (calendars.LONGEST[value[1] - 1] if value[1] != 2 or leap else 28)


class Later(unittest.TestCase):
    setUp, check = test_forms.Near.setUp, test_forms.Near.check

    def test_lifts(self):
        rule = lifts.collective()
        self.check(lifts.is_rule, many(word("go", "open", "rest", "turn"), 16, 16), rule, 400)
        right = (1, 0, 2, (0, 2))
        self.check(asks(lambda value: lifts.lift_step(3, 2, rule, value, TICK), errors.BadStanding),
                   lambda value: exact(whole(0, 2), whole(0, 1), whole(0, 2), many(whole(0, 2), 0, 3))(value) and rising(value[3]), right, 800, 20)
        self.check(asks(lambda value: lifts.lift_step(3, 2, rule, right, value), errors.BadSignal),
                   either(exact(word("call"), whole(0, 2)), exact(word("tick"))), ("call", 1), 300, 5)

    def test_trees(self):
        tree = trees.Tree(HOUSE, WEB, (1, 1), 900)
        self.check(asks(lambda value: trees.Tree(HOUSE, WEB, value, 900), errors.BadFew),
                   many(either(whole(0, 20), word("many")), 2, 2), (1, "many"), 300, 5)
        self.check(asks(lambda value: tree.greatest(value, "any", "hall"), errors.BadPlaces),
                   lambda value: many(whole(0, 1), 0, 2)(value) and rising(value), (0, 1), 300, 5)
        self.check(asks(lambda value: mirrors.short_by(tree, value, "any", "hall"), errors.BadMarks),
                   many(lambda part: type(part) is int, 2, 2), (0, -3), 300, 20)

    def test_wheels_and_journeys(self):
        wheel = constant(NIGHT, (("date", 2, 29), SPLIT), dates=[((2026, 11, 20), SPLIT), ((10 ** 30, 5, 5), SPLIT)])
        self.check(wheels.is_wheel, is_plain_wheel, wheel, 350, 1)
        machine = machines.Machine(TEXT, ("world", (), (0, 1, 2), (), 0))
        bare, buttons = constant(SPLIT), {"night": 0, "day": 1}
        signal = either(exact(word("card"), word("front", "inner"), whole(0, 1), word("guest", "staff")),
                        exact(word("pass"), word("front", "inner"), whole(0, 1)), exact(word("button"), whole(2, 2)), exact(word("tick")))
        part = exact(whole(0, 10 ** 6), many(signal, 0, 99, (tuple, list)))
        self.check(asks(lambda value: modes.journey_end(machine, bare, buttons, value), errors.BadJourney),
                   exact(is_date, whole(0, 23), many(part, 1, 99, (tuple, list))),
                   ((2026, 11, 20), 5, ((3, (TICK, ("button", 2))), (0, ()), (1, (("card", "front", 0, "guest"),)))), 400, 20)

    def test_knowledges(self):
        degrees = exact(whole(18, 24), whole(17, 22))
        self.check(lambda value: unseen.is_knowledge(AIR, value),
                   lambda value: exact(degrees, whole(0, 4), whole(0, 4))(value) and value[1] <= value[2], ((20, 19), 1, 3), 600, 20)

    def test_papers(self):
        crowd = many(many(whole(0), 3, 3), 2, 2)
        paper = TABLE.paper()
        self.check(lambda value: papers.is_paper(HOUSE, WEB, LOADS, value),
                   lambda value: many(many(crowd, 0, 99), 2, 2)(value) and is_plain_paper(HOUSE, WEB, LOADS, value), paper, 1500, 5)

    def test_rings(self):
        web = ("web", (0, 1), (((("a", 1), None, None, 1),), ((TICK, None, None, 0), (("b",), None, None, 1))))
        one, other = ((0,), (("a", 1),)), ((), (("b",),))
        label = lambda value: type(value) is tuple and len(value) > 0 and type(value[0]) is str and all(type(part) in (str, int) for part in value)
        steps = many(exact(label, whole(0)), 0, 99)

        def walks(place, moves):
            for step in moves:
                if step not in [(move[0], move[3]) for move in web[2][place]]:
                    return None
                place = step[1]
            return place

        def scheme(value):
            if not exact(exact(whole(0, 1), steps), whole(0), steps)(value):
                return False
            (begin, moves), moment, turn = value
            end = walks(begin, moves)
            if end is None or walks(end, turn) != end or moment not in [at for at, _ in open_meetings((begin, moves), one, other)]:
                return False
            return TICK in [step[0] for step in turn] and not any(step[0] in other[1] for step in turn)

        ring = ((0, ((("a", 1), 1), (TICK, 0))), 1, ((("a", 1), 1), (TICK, 0)))
        self.check(lambda value: times.is_ring(web, one, other, value), scheme, ring, 1500, 20)
        self.assertIs(marks.is_walk(web, ring[0]), True)

    def test_bars(self):
        plain = Plain(HOUR, DEAF)
        area = word("out", "hall", "lab")
        sheet = many(many(exact(area, area), 0, 99, (tuple, list)), 1, 9, (tuple, list))
        ahead, back = whereabouts.bar(HOUR, DEAF, 0, 3, "hall")
        value = (tuple(tuple(row) for row in ahead), tuple(tuple(row) for row in back))

        def scheme(one):
            if not exact(sheet, sheet)(one) or (len(one[0]), len(one[1])) != (4, 3):
                return False
            return plain.is_bar(0, 3, "hall", one)

        self.check(lambda one: whereabouts.is_bar(HOUR, DEAF, 0, 3, "hall", one), scheme, value, 900, 20)
        self.check(asks(lambda one: whereabouts.course_with(HOUR, DEAF, 3, one), errors.BadPlacement), exact(area, area), ("lab", "out"), 300, 5)

    def test_silence_tables(self):
        """All moves of all controls by plain interpreters, letters read in all ways."""
        # Letters tell of m ahead of n: b were free if somebody heard of them the other way round.
        made = ((("button", 0), ("is", "z", "k"), (("let", "z", "m"),)), (("button", 1), ("is", "z", "m"), (("let", "z", "n"),)),
                (("button", 2), ("is", "z", "n"), (("let", "z", "o"),)), (("becomes", "z", "n"), ("always",), (("let", "x", "q"),)),
                (("becomes", "z", "m"), ("is", "x", "q"), (("let", "b", "free"),)))
        text = ("text", helper.SPLIT_DOORS, (("x", ("p", "q")), ("z", ("k", "m", "n", "o"))), (), (), made)
        parting = ("parting", 2, (0, 1, 0, 1, 0) + (0,) * 6, 0, ("shut", "shut", "no", "p", "k"))
        world = ("world", (), (0, 1, 2), (), 0)
        silent = Silent(text, parting, world, 0)
        met = silent.controls(90)
        letters = [{("k",), ("m",), ("n",), ("o",)}]
        self.assertEqual((panels.lines(text, parting), safe.controls(text, parting, world, 0)), (((0, 1, (4,)),), tuple(met)))
        kept = (text, parting, world, 0, ("is", "b", "free"), (("guest", "out", 1),))
        found, table = safe.any_silence(*kept)
        self.assertEqual(found, [])
        self.assertGreater(sum(map(len, table)), 20)
        load = exact(exact(exact(whole(0), whole(0))), exact(many(exact(word("k", "m", "n", "o")), 0, 99)))
        row = many(load, 0, 99, (tuple, list))

        def comes_of(one, other):
            rest = iter(other)
            return all(letter in rest for letter in one)

        def inside(one, other):
            return is_within(one[0][0], other[0][0]) and comes_of(one[1][0], other[1][0])

        def has_within(lot, one):
            return any(inside(less, one) for less in lot)

        def ahead(control, value):
            """What leads by one move to a load, at the least."""
            standings, down = control
            full = (standings, down, ((9, 9),), ((),))
            for label, behind in silent.moves(full, letters):
                for crowd, (letter_row,) in value[met.index(behind[:2])]:
                    back = crowd
                    if label[0] == "go":
                        moved = [(two - one) for one, two in zip((9, 9), behind[2][0])]
                        back = (tuple(max(0, number - more) if more > 0 else number - more for number, more in zip(crowd[0], moved)),)
                    if label[0] == "show":
                        at = 0 if label[3] == 0 else 1
                        back = (tuple(max(number, 1) if place == at else number for place, number in enumerate(crowd[0])),)
                    words = letter_row
                    if label[0] == "tick":
                        words = words[:-1] if words and words[-1:] == behind[3][0][-1:] else words
                        words = label[1] + words if type(label[1][0]) is tuple else words
                    yield back, (words,)

        def scheme(value):
            if not many(row, len(met), len(met), (tuple, list))(value):
                return False
            for lot in value:
                if list(lot) != sorted(set(lot)) or any(inside(one, other) for one in lot for other in lot if one != other):
                    return False
            if any(load[0][0][1] == 0 and load[1] == ((),) for load in value[0]):
                return False
            for at, control in enumerate(met):
                standing = silent.owned(control[0])
                plain = helper.Plain(text)
                if plain.true(plain.opened(standing), kept[4], False) and not has_within(value[at], (((1, 0),), ((),))):
                    return False
                if not all(has_within(value[at], one) for one in ahead(control, value)):
                    return False
            return True

        self.check(lambda value: safe.is_silence_table(*kept, value), scheme, table, 250, 1)


if __name__ == "__main__":
    unittest.main()
