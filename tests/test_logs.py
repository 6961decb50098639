"""Logs and counts, against all placements and all crowds tried one by one."""
import itertools
import unittest

from helper import HOUSE, PLAIN, SMALL, TEXT, counting, random_building, random_text, seeded
from helper import put
from housekept import counts, errors, logs, meaning, rules

AREAS = ("out", "a", "b", "c", "d", "e")
RING = ("building", AREAS, tuple((name, AREAS[at], AREAS[(at + 1) % 6], "leaf") for at, name in enumerate("pqrstu")), ("x", "y"), ())
# Button 0 lets all doors be free, button 1 shuts two of them.
OPEN = ("text", RING, (), (), (), (
    (("button", 0), ("always",), tuple(("let", door, "free") for door in "pqrs")),
    (("button", 0), ("always",), (("let", "t", "free"), ("let", "u", "free"))),
    (("button", 1), ("always",), (("let", "p", "shut"), ("let", "u", "shut")))))
YARD = ("building", ("out", "hall", "lab"), (("front", "out", "hall", "leaf"), ("inner", "hall", "lab", "leaf")), ("guest", "staff"),
        (("guest", "front", 0), ("staff", "inner", 0)))
HOUR = ("text", YARD, (), (), (), (
    (("button", 0), ("always",), (("let", "front", "free"),)), (("button", 1), ("always",), (("let", "inner", "free"),)),
    (("button", 2), ("always",), (("let", "front", "shut"), ("let", "inner", "shut"))),
    (("card", "inner", 0, "any"), ("right",), (("let", "inner", "free"),))))


class Second:
    """[131] over standings, with all placements of some persons at each moment."""

    def __init__(self, text, eyes, row):
        self.text, self.eyes, self.row = text, eyes, row
        self.doors = text[1][2]
        self.standings = [rules.begin(text)]
        for signal in row:
            self.standings.append(meaning.meaning(text, self.standings[-1], signal)[0])
        self.near = {}

    def free(self, at, place):
        return rules.stands(self.text, self.standings[at], self.doors[place][0]) == "free"

    def unseen(self, at, placed):
        """The placements to which one step leads unseen."""
        for place, (_, one, other, sort) in enumerate(self.doors):
            if sort == "leaf" and self.eyes[place] != "eye" and self.free(at, place):
                for person, area in enumerate(placed):
                    if area in (one, other):
                        yield placed[:person] + (other if area == one else one,) + placed[person + 1:]

    def closed(self, at, lot):
        """All placements to which some can come unseen: those of one lot are worked out once."""
        found = set()
        for first in lot:
            if (at, first) not in self.near:
                near, todo = {first}, [first]
                for placed in todo:
                    fresh = set(self.unseen(at, placed)) - near
                    near |= fresh
                    todo.extend(fresh)
                self.near.update({(at, placed): near for placed in near})
            if first not in found:
                found |= self.near[(at, first)]
        return found

    def behind(self, at, placed, who):
        """The placements behind a row; who None for a card that anybody may show."""
        signal = self.row[at]
        if signal[0] not in ("card", "pass"):
            return [placed]
        place = [door[0] for door in self.doors].index(signal[1])
        here, there = self.doors[place][1 + signal[2]], self.doors[place][2 - signal[2]]
        if signal[0] == "card":
            return [placed] if (here in placed if who is None else placed[who] == here) else []
        if not self.free(at, place) or self.eyes[place] == "deaf":
            return []
        return [placed[:person] + (there,) + placed[person + 1:] for person, area in enumerate(placed) if area == here]

    def moments(self, many, whos):
        """For each moment the placements that the rows ahead lead to; shorter if a row cannot be."""
        found = [self.closed(0, {(self.text[1][1][0],) * many})]
        for at, who in enumerate(whos):
            lot = {behind for placed in found[-1] for behind in self.behind(at, placed, who)}
            if not lot:
                return found
            found.append(self.closed(at + 1, lot))
        return found

    def whole(self, many, whos):
        """For each moment the placements of whole courses; None if there are none."""
        found = self.moments(many, whos)
        if len(found) <= len(whos):
            return None
        for at in range(len(whos) - 1, -1, -1):
            # A placement of a moment is the one just ahead of the row: what follows must be met from there.
            found[at] = {placed for placed in found[at] if any(
                not self.closed(at + 1, {behind}).isdisjoint(found[at + 1])
                for behind in self.behind(at, placed, whos[at]))}
        return found


def random_eyes(rand, building):
    return tuple("eye" if door[3] == "gate" else rand.choice(["eye", "dull", "deaf"]) for door in building[2])


def random_row(rand, text, many, persons=None):
    """A row that some persons can have made, mostly: passes where somebody can go."""
    row, signals = [], rules.signals(text)
    for _ in range(rand.randint(0, many)):
        word = rand.choice(["card", "pass", "pass", "button", "any"])
        lot = [signal for signal in signals if signal[0] == word] or signals
        row.append(rand.choice(lot))
    return row


def samples(seed, many):
    rand = seeded(seed)
    for _ in range(many):
        kind = rand.randrange(3)
        if kind == 0:
            text = random_text(rand, random_building(rand, 4, 3, 2), 14, 2)
        else:
            text = (HOUR, OPEN)[kind - 1]
        persons = tuple((name, rand.choice(text[1][3])) for name in ("ann", "bob", "cy")[:rand.randint(1, 3)])
        eyes = random_eyes(rand, text[1])
        rows = []
        for signal in random_row(rand, text, 7) if kind == 0 else [("button", 0), ("button", 1)][:kind] + random_row(rand, text, 6):
            fit = [at for at, person in enumerate(persons) if signal[0] == "card" and person[1] == signal[3]]
            if signal[0] != "card" or fit:
                rows.append((signal, rand.choice(fit) if fit else None))
        yield rand, text, ("log", persons, eyes, tuple(rows))


class Courses(unittest.TestCase):
    def test_against_all_placements(self):
        seen = {}
        for rand, text, log in samples(1, 300):
            self.assertIs(logs.is_log(text, log), True)
            _, persons, eyes, rows = log
            second = Second(text, eyes, [signal for signal, _ in rows])
            found = second.moments(len(persons), [who for _, who in rows])
            want = None if len(found) > len(rows) else len(found) - 1
            self.assertEqual(logs.first_impossible(text, log), want)
            self.assertEqual(logs.standings(text, log), second.standings)
            seen[want is None] = seen.get(want is None, 0) + 1
            course = logs.course_of(text, log)
            if want is not None:
                self.assertIsNone(course)
                continue
            self.assertIs(logs.is_course(text, log, course), True)
            placed = logs.placed(text, log, course)
            self.assertEqual(len(placed), len(rows) + 1)
            whole = second.whole(len(persons), [who for _, who in rows])
            for at, one in enumerate(placed):
                self.assertIn(one, whole[at])
            self.check_changed(rand, text, log, course, second)
        self.assertGreater(min(seen.values()), 80)

    def check_changed(self, rand, text, log, course, second):
        """Courses with one thing otherwise, judged step by step."""
        _, persons, _, rows = log
        for _ in range(6):
            moves, passers = [list(lot) for lot in course[0]], list(course[1])
            at = rand.randrange(len(moves))
            if rand.random() < 0.4 and passers:
                at = rand.randrange(len(passers))
                passers[at] = rand.choice([None, 0, len(persons) - 1, len(persons)])
            elif rand.random() < 0.5 and moves[at]:
                moves[at].pop(rand.randrange(len(moves[at])))
            else:
                step = (rand.randrange(len(persons)), rand.choice(text[1][2])[0], rand.randint(0, 1))
                moves[at].insert(rand.randint(0, len(moves[at])), step)
            value = ([tuple(lot) for lot in moves], passers)
            want = self.walked(text, log, value, second)
            self.assertIs(logs.is_course(text, log, value), want is not None)
            self.assertIs(logs.is_course(text, log, (tuple(value[0]), tuple(value[1]))), want is not None)
            if want is None:
                with self.assertRaises(errors.BadCourse):
                    logs.placed(text, log, value)
            else:
                self.assertEqual(logs.placed(text, log, value), want)

    def walked(self, text, log, value, second):
        _, persons, eyes, rows = log
        where = ["out"] * len(persons)
        found = []
        doors = {row[0]: (at, row) for at, row in enumerate(text[1][2])}
        for at in range(len(rows) + 1):
            for person, door, side in value[0][at]:
                place, row = doors[door]
                if eyes[place] == "eye" or row[3] == "gate" or not second.free(at, place) or where[person] != row[1 + side]:
                    return None
                where[person] = row[2 - side]
            found.append(tuple(where))
            if at < len(rows):
                (signal, who), passer = rows[at], value[1][at]
                if signal[0] != "pass" and passer is not None:
                    return None
                if signal[0] in ("card", "pass"):
                    place, row = doors[signal[1]]
                    if signal[0] == "card" and where[who] != row[1 + signal[2]]:
                        return None
                    if signal[0] == "pass":
                        if passer is None or passer >= len(persons) or where[passer] != row[1 + signal[2]]:
                            return None
                        if eyes[place] == "deaf" or not second.free(at, place):
                            return None
                        where[passer] = row[2 - signal[2]]
        return found

    def test_by_hand(self):
        log = ("log", (("ann", "guest"), ("bob", "staff")), ("eye", "dull"), (
            (("button", 0), None), (("pass", "front", 0), None), (("button", 1), None), (("card", "inner", 1, "guest"), 0),
            (("pass", "inner", 1), None)))
        self.assertIsNone(logs.first_impossible(HOUR, log))
        course = logs.course_of(HOUR, log)
        # Only ann can have come in, and gone on unseen: her card was shown in the lab.
        self.assertEqual(course, ([(), (), (), ((0, "inner", 0),), (), ()], [None, 0, None, None, 0]))
        self.assertEqual(logs.placed(HOUR, log, course),
                         [("out", "out"), ("out", "out"), ("hall", "out"), ("lab", "out"), ("lab", "out"), ("hall", "out")])
        self.assertEqual(logs.links(HOUR, log, 0), [("out",), ("hall",), ("lab",)])
        self.assertEqual(logs.links(HOUR, log, 3), [("out",), ("hall", "lab")])
        deaf = log[:2] + (("eye", "deaf"),) + log[3:]
        # A deaf door tells no pass.
        self.assertEqual(logs.first_impossible(HOUR, deaf), 4)
        self.assertIsNone(logs.course_of(HOUR, deaf))
        eye = log[:2] + (("eye", "eye"),) + log[3:]
        self.assertEqual(logs.first_impossible(HOUR, eye), 3)
        shut = log[:3] + (log[3][1:],)
        self.assertEqual(logs.first_impossible(HOUR, shut), 0)
        empty = log[:3] + ((),)
        self.assertEqual(logs.course_of(HOUR, empty), ([()], []))
        self.assertEqual(logs.placed(HOUR, empty, ([()], [])), [("out", "out")])
        self.assertEqual(logs.standings(HOUR, empty), [rules.begin(HOUR)])

    def test_wrong_courses(self):
        log = ("log", (("ann", "guest"),), ("dull", "dull"), ((("button", 0), None), (("pass", "front", 1), None)))
        good = ([(), ((0, "front", 0),), ()], [None, 0])
        self.assertIs(logs.is_course(HOUR, log, good), True)
        wrong = [None, [], (), good[0], list(good), (good[0],), good + (None,), ([(), ((0, "front", 0),)], [None, 0]),
                 (good[0], [None]), (good[0], [None, 0, None]), ([[], ((0, "front", 0),), ()], [None, 0]),
                 ([(), [(0, "front", 0)], ()], [None, 0]), ([(), ([0, "front", 0],), ()], [None, 0]),
                 ([(), ((False, "front", 0),), ()], [None, 0]), ([(), ((0, "front", False),), ()], [None, 0]), (good[0], [None, False]),
                 (good[0], [0, 0]), (good[0], [None, None]), (good[0], [None, 1]), (good[0], [None, -1]),
                 ([(), ((0, "back", 0),), ()], [None, 0]), ([(), ((0, ["front"], 0),), ()], [None, 0]),
                 ([((0, "front", 0),), (), ()], [None, 0]), ([(), ((0, "front", 1),), ()], [None, 0]), ([(), (), ()], [None, 0]),
                 (dict(enumerate(good[0])), good[1]), ("abc", good[1]), ([(), None, ()], good[1]), ([(), ((0, "front"),), ()], good[1])]
        for value in wrong:
            self.assertIs(logs.is_course(HOUR, log, value), False, value)
            with self.assertRaises(errors.BadCourse):
                logs.placed(HOUR, log, value)

    def test_logs(self):
        person, row = ("ann", "guest"), (("tick",), None)
        good = ("log", (person,), ("dull", "deaf"), (row, (("card", "front", 0, "guest"), 0)))
        self.assertIs(logs.is_log(HOUR, good), True)
        self.assertIs(logs.is_log(HOUR, good[:3] + ((row,) * 40,)), True)
        wrong = [None, good[:3] + ((row,) * 41,), ("log", (), *good[2:]), ("log", (person,) * 2, *good[2:]), ("log", [person], *good[2:]),
                 ("log", (("ann", "chief"),), *good[2:]), ("log", (("any", "guest"),), *good[2:]), ("log", (person + (1,),), *good[2:]),
                 ("log", tuple((name, "guest") for name in "abcde"), *good[2:]), good[:2] + (("dull",),) + good[3:],
                 good[:2] + (("dull", "blind"),) + good[3:], good[:2] + (["dull", "deaf"],) + good[3:], good[:3] + ([row],),
                 good[:3] + ((row[:1],),), good[:3] + (((("tick",), 0),),), good[:3] + (((("card", "front", 0, "guest"), None),),),
                 good[:3] + (((("card", "front", 0, "guest"), 1),),), good[:3] + (((("card", "front", 0, "staff"), 0),),),
                 good[:3] + (((("card", "front", 0, "guest"), False),),), good[:3] + (((("becomes", "front", "free"), None),),),
                 good[:3] + ((list(row),),), ("logs",) + good[1:], list(good), good[:3], good + (1,)]
        for value in wrong:
            self.assertIs(logs.is_log(HOUR, value), False, value)
            for call, rest in [(logs.standings, ()), (logs.links, (None,)), (logs.is_course, (None,)), (logs.placed, (None,)),
                               (logs.first_impossible, ()), (logs.course_of, ()), (counts.least_lies, ())]:
                with self.assertRaises(errors.BadLog):
                    call(HOUR, value, *rest)
        gate = ("log", (("ann", "guest"),), ("dull", "eye"), ())
        self.assertIs(logs.is_log(TEXT, gate), False)
        self.assertIs(logs.is_log(TEXT, put(gate, (2, 0), "eye")), True)
        for moment in [None, -1, 3, True, "0", (0,)]:
            with self.assertRaises(errors.BadMoment):
                logs.links(HOUR, good, moment)

    def test_too_long_comes_last(self):
        text = counting("b", 1022)
        long = ("log", (("ann", "guest"),), ("dull",), ((("pass", "door", 0), None), (("button", 0), None), (("tick",), None)))
        for call, rest in [(logs.standings, ()), (logs.links, (0,)), (logs.is_course, (None,)), (logs.first_impossible, ()),
                           (logs.course_of, ())]:
            with self.assertRaises(errors.TooLong) as caught:
                call(text, long, *rest)
            self.assertEqual(caught.exception.most, 1000)
        with self.assertRaises(errors.BadMoment):
            logs.links(text, long, 4)
        # The pass at the shut door is wrong ahead of the signal that is too long.
        with self.assertRaises(errors.BadCourse):
            logs.placed(text, long, ([()] * 4, [0, None, None]))
        late = long[:3] + (long[3][1:],)
        for value, error in [(([()] * 3, [None, None]), errors.TooLong), (([()] * 3, [None, 0]), errors.BadCourse),
                             (([(), (), ((0, "door", 1),)], [None, None]), errors.BadCourse),
                             (([(), (), ((0, "door", 0),)], [None, None]), errors.TooLong),
                             (([(), ((0, "door", 0),), ()], [None, None]), errors.TooLong),
                             (([((0, "door", 0),), (), ()], [None, None]), errors.BadCourse)]:
            with self.assertRaises(error):
                logs.placed(text, late, value)

    def test_greatest(self):
        rand = seeded(2)
        persons = tuple((name, "x") for name in ("a", "b", "c", "d"))
        rows = [(("button", 0), None)] + [(("pass", rand.choice("pqrstu"), rand.randint(0, 1)), None) for _ in range(39)]
        log = ("log", persons, ("dull",) * 6, tuple(rows))
        self.assertIs(logs.is_course(OPEN, log, logs.course_of(OPEN, log)), True)


class Crowds(unittest.TestCase):
    def numbers(self, second, row, count, moment, areas):
        """All numbers by all placements of so many persons."""
        whole = second.whole(count, [None] * len(row))
        return () if whole is None else tuple(sorted({sum(area in areas for area in placed) for placed in whole[moment]}))

    def test_against_all_placements(self):
        seen = {"none": 0, "bounds": 0, "without": 0}
        for rand, text, log in samples(3, 160):
            eyes, row = log[2], [signal for signal, _ in log[3]]
            second = Second(text, eyes, row)
            moment = rand.randint(0, len(row))
            areas = tuple(area for area in text[1][1][1:] if rand.random() < 0.5) or text[1][1][1:2]
            index = counts.crowd_fits(text, eyes, row)
            self.assertEqual(counts.crowd_fits(text, eyes, row[:index]), None)
            for count in (1, 2, 3):
                want = self.numbers(second, row, count, moment, areas)
                self.assertEqual(counts.numbers_there(text, eyes, row, count, moment, areas), want)
                if want:
                    self.assertIsNone(index)
            if index is not None:
                seen["none"] += 1
                for call, rest in [(counts.bounds_there, ()), (counts.crowd_course, (True,))]:
                    with self.assertRaises(errors.NoCourse) as caught:
                        call(text, eyes, row, moment, areas, *rest)
                    self.assertEqual(caught.exception.index, index)
                # As many persons as there are rows cannot have made it, either.
                self.assertEqual(counts.numbers_there(text, eyes, row[:index + 1], 8, 0, areas), ())
                continue
            self.check_bounds(text, eyes, row, moment, areas, seen)
        self.assertGreater(min(seen.values()), 8)

    def check_bounds(self, text, eyes, row, moment, areas, seen):
        found = set()
        for count in range(1, 11):
            found |= set(counts.numbers_there(text, eyes, row, count, moment, areas))
        least, greatest = counts.bounds_there(text, eyes, row, moment, areas)
        # No row here has more than 8 signals: where one person more brings one more there, it goes on so.
        self.assertEqual(least, min(found))
        grows = max(found) > max(counts.numbers_there(text, eyes, row, 9, moment, areas))
        self.assertEqual(greatest, None if grows else max(found))
        seen["bounds" if greatest is not None else "without"] += 1
        for which in (True, False):
            value = counts.crowd_course(text, eyes, row, moment, areas, which)
            self.assertIs(counts.is_crowd_course(text, eyes, row, value), True)
            number = sum(many for many, area in zip(value[1][moment], text[1][1]) if area in areas)
            if which and greatest is None:
                self.assertGreaterEqual(number, 40)
            else:
                self.assertEqual(number, greatest if which else least)

    def test_crowd_courses(self):
        """Against all rows of numbers of two persons."""
        right = 0
        for rand, text, log in samples(4, 150):
            eyes, row = log[2], [signal for signal, _ in log[3]][:2]
            second = Second(text, eyes, row)
            areas = text[1][1]
            courses = {()}
            start = second.closed(0, {(areas[0],) * 2})
            layer = {((placed,), placed) for placed in start}
            for at in range(len(row)):
                layer = {(path + (after,), after) for path, placed in layer for behind in second.behind(at, placed, None)
                         for after in second.closed(at + 1, {behind})}
            courses = {tuple(tuple(placed.count(area) for area in areas) for placed in path) for path, _ in layer}
            rows = [numbers for numbers in itertools.product(range(3), repeat=len(areas)) if sum(numbers) == 2]
            for _ in range(40):
                value = [rand.choice(rows) for _ in range(len(row) + 1)]
                if courses and rand.random() < 0.5:
                    value = list(rand.choice(sorted(courses)))
                    value[rand.randrange(len(value))] = rand.choice(rows)
                want = tuple(value) in courses
                right += want
                self.assertIs(counts.is_crowd_course(text, eyes, row, (2, value)), want)
            for value in sorted(courses)[:5]:
                self.assertIs(counts.is_crowd_course(text, eyes, row, (2, value)), True)
        self.assertGreater(right, 100)

    def test_by_hand(self):
        eyes = ("eye", "dull")
        row = [("button", 0), ("pass", "front", 0), ("pass", "front", 0), ("button", 1), ("card", "inner", 1, "guest")]
        self.assertIsNone(counts.crowd_fits(HOUR, eyes, row))
        self.assertEqual(counts.bounds_there(HOUR, eyes, row, 5, ("hall", "lab")), (2, 2))
        self.assertEqual(counts.bounds_there(HOUR, eyes, row, 5, ("lab",)), (0, 2))
        # Just ahead of the card somebody must be in the lab.
        self.assertEqual(counts.bounds_there(HOUR, eyes, row, 4, ("lab",)), (1, 2))
        self.assertEqual(counts.bounds_there(HOUR, eyes, row, 2, ("hall",)), (1, 1))
        self.assertEqual(counts.bounds_there(HOUR, ("dull", "dull"), row, 5, ("hall",)), (0, None))
        # Who passes may have gone back unseen: one person is enough there.
        self.assertEqual(counts.numbers_there(HOUR, ("dull", "dull"), row, 1, 5, ("lab",)), (0, 1))
        self.assertEqual(counts.numbers_there(HOUR, eyes, row, 1, 5, ("lab",)), ())
        self.assertEqual(counts.numbers_there(HOUR, eyes, row, 2, 5, ("lab",)), (0, 1, 2))
        self.assertEqual(counts.crowd_fits(HOUR, eyes, row + [("pass", "front", 1)] * 3), 7)
        self.assertEqual(counts.bounds_there(HOUR, eyes, [], 0, ("hall",)), (0, 0))
        value = counts.crowd_course(HOUR, eyes, row, 4, ("lab",), True)
        self.assertEqual(value[1][4], (value[0] - 2, 0, 2))
        self.assertEqual(counts.crowd_fits(HOUR, eyes, [("pass", "front", 0)]), 0)
        self.assertEqual(counts.crowd_fits(HOUR, ("deaf", "deaf"), row[:2]), 1)

    def test_gaps(self):
        """(G3): one of two is in y or z, the other one in w or x; behind the doors' change x or y is needed, and z or w."""
        building = ("building", ("out", "w", "x", "y", "z"), (
            ("inw", "out", "w", "leaf"), ("iny", "out", "y", "leaf"), ("wx", "w", "x", "leaf"), ("yz", "y", "z", "leaf"),
            ("xy", "x", "y", "leaf"), ("zw", "z", "w", "leaf")), ("guest",), ())
        text = ("text", building, (), (), (), (
            (("button", 0), ("always",), tuple(("let", door, "free") for door in ("inw", "iny", "wx", "yz"))),
            (("button", 1), ("always",), tuple(("let", door, "shut") for door in ("wx", "yz"))),
            (("button", 2), ("always",), tuple(("let", door, "free") for door in ("xy", "zw")))))
        eyes = ("eye", "eye", "dull", "dull", "dull", "dull")
        row = [("button", 0), ("pass", "inw", 0), ("pass", "iny", 0), ("button", 1), ("button", 2), ("card", "xy", 0, "guest"), ("card", "zw", 0, "guest")]
        self.assertEqual(counts.bounds_there(text, eyes, row, 4, ("x", "z")), (0, 2))
        for count in range(2, 11):
            self.assertEqual(counts.numbers_there(text, eyes, row, count, 4, ("x", "z")), (0, 2))
        self.assertEqual(self.numbers(Second(text, eyes, row), row, 2, 4, ("x", "z")), (0, 2))
        self.assertEqual(counts.numbers_there(text, eyes, row[:-1], 2, 4, ("x", "z")), (0, 1, 2))
        self.assertEqual(counts.bounds_there(text, eyes, row, 4, ("x", "y")), (1, 1))
        self.assertEqual(counts.bounds_there(text, eyes, row, 3, ("x", "z")), (0, 2))

    def test_greatest(self):
        rand = seeded(6)
        eyes = ("eye", "eye", "dull", "eye", "eye", "eye")
        where, doors, row = ["out"] * 25, {door[0]: door for door in RING[2]}, [("button", 0)]
        while len(row) < 40:
            door, side = rand.choice("pqrstu"), rand.randint(0, 1)
            here = [at for at, area in enumerate(where) if area == doors[door][1 + side]]
            if here and rand.random() < 0.8:
                where[here[0]] = doors[door][2 - side]
                row.append(("pass", door, side))
            elif here:
                row.append(("card", door, side, "x"))
        self.assertIsNone(counts.crowd_fits(OPEN, eyes, row))
        for moment in (0, 20, 40):
            least, greatest = counts.bounds_there(OPEN, eyes, row, moment, ("b", "d", "e"))
            numbers = counts.numbers_there(OPEN, eyes, row, 10, moment, ("b", "d", "e"))
            self.assertTrue(all(least <= number <= greatest for number in numbers))
            for which in (True, False):
                value = counts.crowd_course(OPEN, eyes, row, moment, ("b", "d", "e"), which)
                self.assertIs(counts.is_crowd_course(OPEN, eyes, row, value), True)
                there = sum(value[1][moment][place] for place in (2, 4, 5))
                self.assertEqual(there, greatest if which else least)

    def test_errors(self):
        eyes, row = ("dull", "dull"), [("tick",)]
        text = counting("b", 1022)
        calls = [(counts.numbers_there, (3, 0, ("hall",))), (counts.bounds_there, (0, ("hall",))), (counts.crowd_course, (0, ("hall",), True)),
                 (counts.crowd_fits, ()), (counts.is_crowd_course, (None,))]
        for call, rest in calls:
            bad = ["no"] * len(rest)
            for error, args in [(errors.BadText, (None, None, None)), (errors.BadEyes, (HOUR, None, None)), (errors.BadEyes, (HOUR, list(eyes), row)),
                                (errors.BadEyes, (TEXT, ("dull", "dull"), row)), (errors.BadEyes, (HOUR, ("dull",), row)),
                                (errors.BadRow, (HOUR, eyes, None)), (errors.BadRow, (HOUR, eyes, [("tick",)] * 41)),
                                (errors.BadRow, (HOUR, eyes, [("tick", 1)])), (errors.BadRow, (HOUR, eyes, [None]))]:
                with self.assertRaises(error):
                    call(*args, *bad)
            call(HOUR, eyes, tuple(row) * 40, *rest)
            long = [item if item != ("hall",) else ("room",) for item in rest]
            with self.assertRaises(errors.TooLong):
                call(text, ("dull",), [("pass", "door", 1), ("button", 0)], *long)
        for count in [None, 0, 11, True, "3"]:
            with self.assertRaises(errors.BadCount):
                counts.numbers_there(HOUR, eyes, row, count, None, None)
        for moment in [None, -1, 2, True]:
            for call, ahead, rest in [(counts.numbers_there, (3,), ()), (counts.bounds_there, (), ()), (counts.crowd_course, (), (None,))]:
                with self.assertRaises(errors.BadMoment):
                    call(HOUR, eyes, row, *ahead, moment, None, *rest)
        for areas in [None, (), ["hall"], ("out",), ("lab", "hall"), ("hall", "hall"), ("attic",), "hall", (["hall"],)]:
            for call, ahead, rest in [(counts.numbers_there, (3,), ()), (counts.bounds_there, (), ()), (counts.crowd_course, (), (None,))]:
                with self.assertRaises(errors.BadAreas):
                    call(HOUR, eyes, row, *ahead, 0, areas, *rest)
        for greatest in [None, 0, 1, "True"]:
            with self.assertRaises(errors.BadGreatest):
                counts.crowd_course(HOUR, eyes, [("pass", "front", 0)], 0, ("hall",), greatest)
        one = (1, [(1, 0, 0), (1, 0, 0)])
        self.assertIs(counts.is_crowd_course(HOUR, eyes, row, one), True)
        for value in [None, (), list(one), (True, one[1]), (1, one[1][:1]), (2, one[1]), (1, [[1, 0, 0], (1, 0, 0)]), (1, [(1, 0), (1, 0)]),
                      (1, [(True, 0, 0), (1, 0, 0)]), (1, [(2, -1, 0), (1, 0, 0)]), (1, {}), (1, one[1] * 2), (1, [(1, 0, 0), (0, 1, 0)])]:
            self.assertIs(counts.is_crowd_course(HOUR, eyes, row, value), False, value)


class Lies(unittest.TestCase):
    def test_against_all_lots(self):
        sizes = {}
        for rand, text, log in samples(7, 120):
            rows = log[3]
            want = []
            for size in range(len(rows) + 1):
                for lot in itertools.combinations(range(len(rows)), size):
                    left = tuple(row for at, row in enumerate(rows) if at not in lot)
                    second = Second(text, log[2], [signal for signal, _ in left])
                    if len(second.moments(len(log[1]), [who for _, who in left])) > len(left):
                        want.append(lot)
                if want:
                    break
            self.assertEqual(counts.least_lies(text, log), want)
            sizes[size] = sizes.get(size, 0) + 1
        self.assertGreater(min(sizes.get(size, 0) for size in (0, 1, 2)), 5)

    def test_ten_rows_and_more(self):
        row = (("pass", "front", 0), None)
        log = ("log", (("ann", "guest"),), ("dull", "dull"), (row,) * 10)
        self.assertEqual(counts.least_lies(HOUR, log), [tuple(range(10))])
        with self.assertRaises(errors.TooMany) as caught:
            counts.least_lies(HOUR, log[:3] + ((row,) * 11,))
        self.assertEqual(caught.exception.most, 10)
        with self.assertRaises(errors.TooLong):
            counts.least_lies(counting("b", 1022), ("log", (("ann", "guest"),), ("dull",), ((("button", 0), None),)))

    def test_crowd_of(self):
        persons = (("ann", "guest"), ("bob", "staff"), ("cy", "guest"), ("dan", "guest"))
        self.assertEqual(counts.crowd_of(HOUSE, persons, ("out", "lab", "hall", "out")), ((2, 1, 0), (0, 0, 1)))
        self.assertEqual(counts.crowd_of(SMALL, (), ()), ((0, 0),))
        self.assertEqual(PLAIN[1], SMALL)


if __name__ == "__main__":
    unittest.main()
