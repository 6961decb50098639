"""[45]: least households, and boxes."""
import itertools
import unittest

from helper import HOUSE, PLAIN, SMALL, put, random_building, seeded
from housekept import crowds, errors, households, machines, promises, rights, tables, webs
from test_promises import IN, ON, WEB, met_by, random_promise, random_web
from test_tables import LOADS

ZERO = ((0, 0, 0), (0, 0, 0))
GO = (("go",), ("guest", "out"), ("guest", "lab"), 0)
STEP = (("step",), ("staff", "out"), ("staff", "lab"), 0)
FREE = ("web", (0,), ((GO, STEP),))


def at_most(one, other):
    return all(a <= b for a, b in zip(one, other))


def in_box(household, box):
    return all(most == "many" or number <= most for number, most in zip(household, box))


def lab(guests, staff):
    return ((0, 0, guests), (0, 0, staff))


class Households(unittest.TestCase):
    def test_by_hand(self):
        table = tables.Table(HOUSE, WEB, LOADS, 50)
        self.assertEqual(households.households_of(table), [((2, 0), (0, [IN, ON, IN, ON]))])
        promise = ("never", (0,), (("guest", "lab", 2),))
        self.assertEqual(households.households(HOUSE, WEB, promise), households.households_of(table))
        self.assertIs(households.holds_for(table, (1, 10 ** 99)), True)
        self.assertIs(households.holds_for(table, (2, 0)), False)
        self.assertEqual(households.boxes(table), [(1, "many")])
        self.assertIs(households.still_safe(table, 0, [((1, 0, 0), (5, 5, 5)), ZERO]), True)
        self.assertIs(households.still_safe(table, 0, [ZERO, ((1, 0, 1), (0, 0, 0))]), False)
        self.assertIs(households.still_safe(table, 1, []), True)

    def test_several_least_households(self):
        loads = ((lab(0, 3), lab(1, 1), lab(4, 0)),)
        table = tables.Table(HOUSE, FREE, loads, 100)
        self.assertEqual(households.households_of(table), [((1, 1), (0, [GO, STEP])), ((0, 3), (0, [STEP] * 3)),
                                                           ((4, 0), (0, [GO] * 4))])
        self.assertEqual(households.boxes(table), [(0, 2), (3, 0)])
        equal = tables.Table(HOUSE, FREE, ((lab(2, 0), lab(0, 2), lab(1, 1)),), 100)
        self.assertEqual([one for one, _ in households.households_of(equal)], [(0, 2), (1, 1), (2, 0)])

    def test_boxes_with_many(self):
        for loads, boxes in [((lab(2, 0),), [(1, "many")]), ((lab(0, 1),), [("many", 0)]), ((), [("many", "many")]),
                             ((ZERO,), []), ((lab(3, 1),), [(2, "many"), ("many", 0)]),
                             ((lab(1, 0), lab(0, 1)), [(0, 0)]), ((lab(3, 1), lab(1, 2)), [(0, "many"), (2, 1), ("many", 0)])]:
            table = tables.Table(HOUSE, FREE, (loads,), 100)
            self.assertEqual(households.boxes(table), boxes)

    def test_nobody_at_all(self):
        table = tables.Table(HOUSE, FREE, ((ZERO, lab(1, 0)),), 5)
        self.assertEqual(households.households_of(table), [((0, 0), (0, []))])
        self.assertIs(households.holds_for(table, (0, 0)), False)

    def test_nobody_can(self):
        table = tables.Table(HOUSE, FREE, ((((0, 1, 0), (0, 0, 0)),),), 5)
        self.assertEqual(households.households_of(table), [])
        self.assertEqual(households.boxes(table), [("many", "many")])
        self.assertIs(households.holds_for(table, (10 ** 99, 10 ** 99)), True)

    def test_course_from_the_first_begin_with_fewest_moves(self):
        hop = (("hop",), None, None, 1)
        web = ("web", (0, 2, 3), ((hop,), (), (put(hop, (3,), 4),), (put(hop, (3,), 4),), ((("on",), None, None, 1),)))
        loads = ((), (lab(0, 0),), (), (), (lab(0, 0),))
        self.assertEqual(households.households_of(tables.Table(HOUSE, web, loads, 9)), [((0, 0), (0, [hop]))])
        far = ((), (), (), (), (lab(0, 0),))
        self.assertEqual(households.households_of(tables.Table(HOUSE, web, far, 9)), [((0, 0), (2, [put(hop, (3,), 4)]))])
        self.assertEqual(households.households_of(tables.Table(HOUSE, put(web, (1,), (0, 4)), far, 9)), [((0, 0), (4, []))])

    def test_greater_households_may_have_shorter_courses(self):
        machine = machines.Machine(PLAIN, ("world", (), (), (), 0))
        web = webs.web_of(machine)
        promise = ("never", (0,), (("any", "room", 2),))
        found = households.households(SMALL, web, promise)
        self.assertEqual([(one, [move[0][0] for move in course[1]]) for one, course in found],
                         [((2,), ["show", "go", "show", "go"])])

    def test_is_break(self):
        good = (0, [IN, ON, IN, ON])
        for value in (good, (0, tuple(good[1]))):
            self.assertIs(households.is_break(HOUSE, WEB, LOADS, (2, 0), value), True)
        for household, value in [((1, 0), good), ((2, 0), list(good)), ((2, 0), (0, good[1][:2])), ((2, 0), (1, good[1])),
                                 ((2, 0), (False, good[1])), ((2, 0), (0, None)), ((2, 0), (0, good[1], 1)), ((2, 0), (2, [])), ((2, 0), (0,)), ((2, 0), ()),
                                 ((2, 0), (0, good[1][:3] + [put(ON, (3,), False)])), ((2, 0), (0, good[1] + [IN]))]:
            self.assertIs(households.is_break(HOUSE, WEB, LOADS, household, value), False)
        self.assertIs(households.is_break(HOUSE, WEB, LOADS, (3, 3), (0, good[1] + [WEB[2][0][1]])), True)

    def test_wrong_arguments(self):
        table = tables.Table(HOUSE, WEB, LOADS, 50)
        for call in (households.households_of, households.boxes, lambda one: households.holds_for(one, None),
                     lambda one: households.still_safe(one, None, None)):
            with self.assertRaises(errors.BadTable):
                call(LOADS)
        with self.assertRaises(errors.BadHousehold):
            households.holds_for(table, [2, 0])
        with self.assertRaises(errors.BadPlace):
            households.still_safe(table, 2, None)
        with self.assertRaises(errors.BadCrowds):
            households.still_safe(table, 1, [ZERO, None])

    def test_too_many(self):
        """Households within a table of at most 1000: of a web that takes more it is told behind all other errors."""
        spread = tuple(((("m", one, other, kind)), (kind, one), (kind, other), 0) for kind in ("guest", "staff")
                       for one in HOUSE[1] for other in HOUSE[1] if one != other)
        moves = tuple((label, need, there, 1) for label, need, there, _ in spread)
        web = ("web", (0,), (moves, spread))
        needs = (("guest", "lab", 3), ("staff", "hall", 3))
        with self.assertRaises(errors.TooMany) as caught:
            many = ("web", (0,), tuple(tuple(move[:3] + ((at + 1) % 30,) for move in spread) for at in range(30)))
            households.households(HOUSE, many, ("never", tuple(range(30)), needs))
        self.assertEqual(caught.exception.most, 1000)
        self.assertEqual([one for one, _ in households.households(HOUSE, web, ("never", (0,), needs))], [(3, 3)])
        with self.assertRaises(errors.BadPromise):
            households.households(HOUSE, many, None)

    def can_meet(self, web, loads, household):
        """Whether a household can meet loads: all its moments, walked forwards."""
        met = [(begin, crowds.crowd_at(HOUSE, household)) for begin in web[1]]
        known = set(met)
        for place, crowd in met:
            if met_by(loads, (place, crowd)):
                return True
            for move in web[2][place]:
                rows = [list(row) for row in crowd]
                if move[1] is not None:
                    kind = HOUSE[3].index(move[1][0])
                    if rows[kind][HOUSE[1].index(move[1][1])] == 0:
                        continue
                    rows[kind][HOUSE[1].index(move[1][1])] -= 1
                    rows[kind][HOUSE[1].index(move[2][1])] += 1
                behind = (move[3], tuple(tuple(row) for row in rows))
                if behind not in known:
                    known.add(behind)
                    met.append(behind)
        return False

    def test_plain_texts_are_broken_by_companies_of_helpers(self):
        """Where each door is freed by rights alone, the least households are told by companies alone."""
        several = 0
        for seed in range(60):
            rand = seeded(seed)
            building = random_building(rand, rand.randint(2, 4), rand.randint(1, 3), rand.randint(1, 3))
            made = []
            for door, _, _, _ in building[2]:
                made.append((("card", door, "any", "any"), ("right",), (("let", door, "free"),)))
                made.append((("pass", door, "any"), ("always",), (("let", door, "shut"),)))
                made.append((("tick",), ("always",), (("let", door, "shut"),)))
            machine = machines.Machine(("text", building, (), (), (), tuple(made)), ("world", (), (), (), 0))
            web = webs.web_of(machine)
            for kind, area in itertools.product(building[3], building[1][1:]):
                many = rand.randint(1, 2)
                promise = ("never", tuple(range(len(machine))), ((kind, area, many),))
                found = [one for one, _ in households.households(building, web, promise)]
                lots = [tuple(many if one == kind else int(one in company) for one in building[3])
                        for company in rights.helpers(building, kind, area)]
                self.assertEqual(found, sorted(lots, key=lambda one: (sum(one), one)))
                several += len(found) > 1
        self.assertGreater(several, 0)

    def test_against_walking_forwards(self):
        small = list(itertools.product(range(4), repeat=2))
        some = 0
        for seed in range(160):
            rand = seeded(seed)
            web = random_web(rand)
            loads = promises.loads_of(HOUSE, web, random_promise(rand))
            try:
                table = tables.Table(HOUSE, web, loads, 400)
            except errors.TooMany:
                continue
            found = households.households_of(table)
            names = [one for one, _ in found]
            self.assertEqual(names, sorted(names, key=lambda one: (sum(one), one)))
            self.assertFalse(any(one != other and at_most(one, other) for one in names for other in names))
            boxes = households.boxes(table)
            for household in small:
                meets = self.can_meet(web, loads, household)
                self.assertEqual(any(at_most(one, household) for one in names), meets)
                self.assertIs(households.holds_for(table, household), not meets)
                self.assertEqual(any(in_box(household, box) for box in boxes), not meets)
            for one, (begin, moves) in found:
                some += 1
                self.assertIs(households.is_break(HOUSE, web, loads, one, (begin, moves)), True)
                lefts = [table.left(other, crowds.crowd_at(HOUSE, one)) for other in web[1]]
                best = min(left for left in lefts if left is not None)
                self.assertEqual((begin, len(moves)), (web[1][lefts.index(best)], best))
            for box in boxes:
                for other in boxes:
                    wider = all(b == "many" or (a != "many" and a <= b) for a, b in zip(box, other))
                    self.assertFalse(box != other and wider)
            key = [[(number == "many", number if number != "many" else 0) for number in box] for box in boxes]
            self.assertEqual(key, sorted(key))
        self.assertGreater(some, 40)


if __name__ == "__main__":
    unittest.main()
