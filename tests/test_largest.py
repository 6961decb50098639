"""The largest inputs within the bounds: they are answered, and soon enough."""
import unittest

from helper import BUTTONS, SMALL, all_of, four_thousand, put
from housekept import (alarms, courses, crowds, errors, households, judging, least, letters, machines, meaning, panels,
                       promises, reasons, rules, tables, ways, webs)

AREAS = ("out", "a", "b", "c", "d", "e")
DOORS = tuple(("d" + "abcdef"[at], AREAS[at], AREAS[(at + 1) % 6], "gate" if at % 2 else "leaf") for at in range(6))
KINDS = ("x", "y", "z")
TOWER = ("building", AREAS, DOORS, KINDS, tuple((kind, door[0], side) for kind in KINDS for door in DOORS for side in (0, 1)))
ZERO = ((0,) * 6,) * 3


def full(deep, leaf):
    """A condition of all nesting that is let."""
    return leaf if deep == 1 else ("both", full(deep - 1, leaf), full(deep - 1, leaf))


def tower_text():
    """30 rules with deep conditions, 3 timers: 4000 standings with all smokes."""
    made = [(("card", "any", "any", kind), full(6, ("right",)), (("start", name, 4),)) for kind, name in zip(KINDS, "rst")]
    for at in range(27):
        area = AREAS[1 + at % 5]
        made.append((("smoke", area, "any"), full(6, ("is", "smoke:" + area, ("yes", "no")[at % 2])), (("say", at % 10),)))
    return ("text", TOWER, (), (("r", 4), ("s", 4), ("t", 4)), (), tuple(made))


TEXT = tower_text()
WORLD = ("world", AREAS[1:], (0, 1, 2, 3, 4, 5), (), 0)
MACHINE = machines.Machine(TEXT, WORLD)


class Largest(unittest.TestCase):
    def test_texts_and_signals(self):
        self.assertIs(rules.is_text(TEXT), True)
        self.assertEqual(len(rules.signals(TEXT)), 77)
        many = rules.signals(TEXT) * 5
        self.assertEqual(len(meaning.run(TEXT, rules.begin(TEXT), many)), 385)
        for signal in rules.signals(TEXT):
            self.assertIs(type(reasons.apart(TEXT, signal, ("tick",))), bool)

    def test_machine(self):
        self.assertEqual(len(MACHINE), 4000)
        row = machines.way(MACHINE, 3999)
        self.assertEqual(MACHINE.number(meaning.behind(TEXT, row)), 3999)
        names = least.classes(MACHINE, ("doors", "endless", "words"))
        self.assertEqual(max(names) + 1, len(least.least(MACHINE, ("doors", "endless", "words"))))
        self.assertIsNone(least.alike(MACHINE, MACHINE, ("words",)))
        self.assertEqual(len(judging.fires(MACHINE)), 30)
        self.assertEqual(judging.clashes(MACHINE), {})
        self.assertIsNone(judging.commute(MACHINE, ("tick",), ("button", 0)))

    def test_lots_that_can_go(self):
        found = judging.can_go(TEXT, WORLD, ("doors",), [0, 1, 2, 3, 4, 5])
        self.assertEqual(len(found), 63)

    def test_least_form_of_standings_in_a_long_row(self):
        """2048 standings one behind another: each round of refining parts one more."""
        made = []
        for at, name in enumerate("vwxyz"):
            for here, worth in enumerate("abcd"):
                parts = [("is", lower, "d") for lower in "vwxyz"[:at]] + [("is", name, worth)]
                made.append((("button", 0), all_of(parts), (("let", name, "abcd"[(here + 1) % 4]),)))
        end = all_of([("is", name, "d") for name in "vwxyz"])
        made.append((("button", 1), end, (("say", 1),)))
        text = ("text", SMALL, tuple((name, ("a", "b", "c", "d")) for name in "vwxyz"), (), (), tuple(made))
        world = ("world", ("room",), (0, 1), (), 0)
        machine = machines.Machine(text, world)
        self.assertEqual(len(machine), 2048)
        self.assertEqual(len(least.least(machine, ("words",))), 1024)
        other = machines.Machine(put(text, (5, 20, 2), (("say", 2),)), world)
        row = least.alike(machine, other, ("words",))
        self.assertEqual(row, [("button", 0)] * 1023 + [("button", 1)])
        self.assertEqual(judging.met(machine, end), [("button", 0)] * 1023)

    def test_web_of_a_machine(self):
        web = webs.web_of(MACHINE)
        self.assertIs(webs.is_web(web), True)
        self.assertEqual(len(web[2]), 4000)
        smoke = webs.places_of(web, [("smoke", "a", "yes")])
        self.assertEqual(webs.places_of(web, [("smoke", "a", "yes"), ("tick",)] * 200), smoke)
        free = ("never", promises.places_where(MACHINE, ("stands", "da", "free")), (("any", "a", 1),))
        self.assertEqual(households.households(TOWER, web, free), [])
        with self.assertRaises(errors.TooMany):
            households.households(TOWER, web, ("never", tuple(range(4000)), (("any", "c", 3), ("x", "d", 1))))

    def test_ring_of_twenty_thousand_places(self):
        many = 20000
        step = (("tick",), None, None)
        web = ("web", (0,), tuple((step + ((at + 1) % many,),) for at in range(many)))
        loads = ((),) * (many - 1) + ((ZERO,),)
        table = tables.Table(TOWER, web, loads, many)
        self.assertEqual(table.rounds, many - 1)
        (household, (begin, moves)), = households.households_of(table)
        self.assertEqual((household, begin, len(moves)), ((0, 0, 0), 0, many - 1))
        self.assertEqual(moves, promises.brute(TOWER, web, loads, 0, ZERO, many))
        self.assertEqual(courses.led(TOWER, web, 0, ZERO, moves)[-1], (many - 1, ZERO))
        self.assertIs(households.is_break(TOWER, web, loads, household, (begin, moves)), True)
        with self.assertRaises(errors.TooMany):
            tables.Table(TOWER, web, loads, many - 1)
        with self.assertRaises(errors.TooMany):
            promises.brute(TOWER, web, loads, 0, ZERO, many - 1)

    def test_table_with_thousands_of_least_crowds(self):
        moves = tuple((("m", kind, one, other), (kind, one), (kind, other), 0)
                      for kind in KINDS for one in AREAS for other in AREAS if one != other)
        load = ((0, 0, 2, 2, 0, 0), (0, 0, 0, 0, 2, 0), (0,) * 6)
        table = tables.Table(TOWER, ("web", (0,), (moves,)), ((load,),), 20000)
        # Four of x and two of y, wherever they are: 126 times 21 crowds.
        self.assertEqual(len(table.least(0, 99)), 2646)
        self.assertEqual([one for one, _ in households.households_of(table)], [(4, 2, 0)])
        self.assertEqual(households.boxes(table), [(3, "many", "many"), ("many", 1, "many")])
        self.assertEqual(crowds.least_crowds(TOWER, table.least(0, 99)), table.least(0, 99))
        with self.assertRaises(errors.TooMany):
            tables.Table(TOWER, ("web", (0,), (moves,)), ((load,),), 2645)
        two = tuple(tuple(move[:3] + (1 - at,) for move in moves) for at in (0, 1))
        lot = tuple(((0, at, 0, 0, 0, 0), (0, 0, 399 - at, 0, 0, 0), (0,) * 6) for at in range(400))
        with self.assertRaises(errors.TooMany):
            tables.Table(TOWER, ("web", (0,), two), (lot, ()), 20000)
        self.assertEqual(len(crowds.least_crowds(TOWER, lot)), 400)

    def test_hundreds_of_least_households(self):
        lot = tuple(((at, 0, 0, 0, 0, 0), (399 - at, 0, 0, 0, 0, 0), (0,) * 6) for at in range(400))
        table = tables.Table(TOWER, ("web", (0, 1), ((), ())), (lot, ()), 400)
        self.assertEqual(households.households_of(table), [((at, 399 - at, 0), (0, [])) for at in range(400)])
        self.assertEqual(households.boxes(table), [(at, 398 - at, "many") for at in range(399)])

    def test_others(self):
        names = [door[0] for door in DOORS]
        cut, rows = ways.parting(TOWER, names, "out", "c")
        self.assertEqual((len(cut), len(rows)), (2, 2))
        course = [tuple(range(max(0, at - 3), at + 1)) for at in range(400)]
        self.assertEqual(letters.heard(course, 0), list(range(400)))
        watch = ("watch", ((0, 1, 4), (5, 2, 4), (9, 3, 4)), (("a", 4), ("b", 4), ("c", 4)), 3, 3, "pass")
        found, _ = alarms.watched(watch, [(tuple(range(10)), ())] * 400)
        self.assertEqual(len(found), 400)
        size = len(rules.variables(TEXT)) + 3 + 6
        parting = ("parting", 3, (0,) * size, 3, tuple(worths[0] for _, worths in rules.variables(TEXT)))
        self.assertEqual(panels.places(TEXT, parting), (0,) * 30)
        self.assertEqual(len(machines.Machine(four_thousand(False), BUTTONS)), 4000)


if __name__ == "__main__":
    unittest.main()
