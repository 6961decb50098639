"""The same as test_wrong for the files behind guarded.py, up to modes.py."""
import unittest

import helper
import test_wrong
from helper import BEGIN, HOUSE, PLAIN, SMALL, TEXT, WORLD
from housekept import (bench, errors, journals, lags, lifts, lifttexts, liftwaits, lone, machines, mirrors, modes, rules, times,
                       trees, wheels)
from test_wrong import MACHINE, PARTING, QUESTION, SPLIT, WATCH, WEB

NIGHT, DAY = ((0, "night"),), ((0, "night"), (6, "day"))
WHEEL = ("wheel", (NIGHT,) * 7, ((),) * 28, (((5, 5, 5), DAY), ((2026, 11, 20), DAY)))
BARE = ("wheel", (DAY,) * 7, ((),) * 28, ())
CALENDAR = ("calendar", (NIGHT,) * 7, ((("shift", ("nth", 5, 0, -1), 3), DAY),), (((2026, 11, 20), ((0, "late"),)),))
TABLE = {(one, other): one for one in ("night", "day") for other in ("night", "day")}
MARKED = ("web", (0, 1), (((("a", 1), None, None, 1),), ((("tick",), None, None, 0), (("b",), None, None, 1))))
ROW = ("web", (0, 1), (((("tick",), None, None, 1),), ()))
ONE, OTHER = ((0,), (("a", 1),)), ((), (("b",),))
RULE = lifts.collective()
TREE = trees.Tree(HOUSE, WEB, (2, "many"), 5000)
CROWD = ((0, 1, 0), (2, 0, 0))
LIFT = lifttexts.lift_text(2, 3, True)
JOURNEY = ((2026, 11, 20), 5, [(3, [("tick",), ("button", 2)]), (0, [])])
PRESSED = machines.Machine(TEXT, ("world", (), (0, 1, 2), (), 0))
QUIET = ("world", (), (), (), 0)


def busy():
    one = bench.Bench(TEXT, [2, 1])
    one.show("guest", "front", 0)
    one.exchange(TEXT)
    return one


BENCH = busy()
LINES = journals.journal(BENCH)

NAMED = {**test_wrong.NAMED, "one": (errors.BadMark, {}, ()), "other": (errors.BadMark, {}, ()), "t": (errors.BadTicks, {}, ()),
         "k": (errors.BadTicks, {}, ()), "floors": (errors.BadFloors, {}, ()), "stay": (errors.BadStay, {}, ()),
         "rule": (errors.BadRule, {}, ()), "floor": (errors.BadFloor, {}, ()), "fire": (errors.BadFire, {}, (True, False)),
         "few": (errors.BadFew, {}, ()), "places": (errors.BadPlaces, {}, ((),)), "tree": (errors.BadTree, {}, ()),
         "marks": (errors.BadMarks, {}, ()), "counter": (errors.BadName, {}, ()), "calendar": (errors.BadCalendar, {}, ()),
         "wheel": (errors.BadWheel, {}, ()), "date": (errors.BadDate, {}, ()), "hour": (errors.BadHour, {}, ()),
         "buttons": (errors.BadButtons, {}, ()), "journey": (errors.BadJourney, {}, ()), "bench": (errors.BadBench, {}, ()),
         "ticks": (errors.BadTicks, {}, ()), "lines": (errors.BadLines, {}, ([], (), ["any"], ("any",), ("text",)))}
WHEELS = {"one": (errors.BadWheel, {}, ()), "other": (errors.BadWheel, {}, ()), "table": (errors.BadTable, {}, ())}
CLOCK = {"value": (errors.BadClock, {}, ())}
ANY = {"kind": (errors.BadKind, {}, ("any",))}
SHARES = {"text": SPLIT, "parting": PARTING, "net": ("net", 0, 0), "world": QUIET}
LIFTED = {"floors": 3, "stay": 2, "rule": RULE}
DRIVEN = {"floors": 2, "stay": 3, "fire": True}
BROKEN = {"building": HOUSE, "web": WEB, "household": (2, 1), "marks": (0, 2), "kind": "any", "area": "hall", "most": 900}

CALLS = [
    (times.within, {"web": MARKED, "one": ONE, "other": OTHER}, {}), (times.clock, {"web": ROW, "one": ((0,), ()), "other": ((), ())}, {}),
    (times.is_clock, {"web": ROW, "one": ((0,), ()), "other": ((), ()), "value": {0: 1, 1: 0}}, {}),
    (times.bound, {"web": ROW, "one": ((0,), ()), "other": ((), ()), "value": {0: 1, 1: 0}}, CLOCK),
    (times.ring, {"web": MARKED, "one": ONE, "other": OTHER}, {}),
    (times.is_ring, {"web": MARKED, "one": ONE, "other": OTHER, "value": ((0, ()), 0, ((("a", 1), 1), (("tick",), 0)))}, {}),
    (times.late, {"web": MARKED, "one": ONE, "other": OTHER, "t": 3}, {}),
    (lags.parts_by, {**SHARES, "k": 1}, {}), (lags.least_by, SHARES, {}), (lags.settles, SHARES, {}), (lags.unsettled, SHARES, {}),
    (lifts.is_rule, {"value": RULE}, {}),
    (lifts.lift_step, {**LIFTED, "standing": (1, 0, 2, (0, 2)), "signal": ("call", 1)}, {}),
    (lifts.lift_standings, LIFTED, {}), (lifts.lift_web, LIFTED, {}), (lifts.collective, {}, {}), (lifts.one_way, {}, {}),
    (liftwaits.call_marks, {**LIFTED, "floor": 1}, {}), (liftwaits.call_waits, LIFTED, {}), (liftwaits.greatest_wait, LIFTED, {}),
    (liftwaits.collective_waits, {"floors": 9, "stay": 5}, {}), (liftwaits.one_way_waits, {"floors": 9, "stay": 5}, {}),
    (liftwaits.held, LIFTED, {}), (lifttexts.lift_text, DRIVEN, {}), (lifttexts.lift_world, DRIVEN, {}),
    (lifttexts.lift_of, {"text": LIFT, "standing": rules.begin(LIFT)}, {}),
    (lone.lone_wait, {"watch": WATCH, "word": 4}, {}), (lone.lone_sleepers, {"watch": WATCH, "word": 4, "ticks": 0}, {}),
    (trees.Tree, {"building": HOUSE, "web": WEB, "few": (2, "many"), "most": 900}, {}),
    (TREE.nodes, {}, {}), (TREE.reaches, {"place": 1, "crowd": CROWD}, {}),
    (TREE.greatest, {"places": (0, 1), "kind": "any", "area": "hall"}, ANY), (TREE.course_to, {"place": 1, "crowd": CROWD}, {}),
    (mirrors.counter_marks, {"machine": MACHINE, "counter": "seen"}, {}),
    (mirrors.short_by, {"tree": TREE, "marks": (0, 2), "kind": "any", "area": "hall"}, ANY), (mirrors.over_by, BROKEN, ANY),
    (mirrors.low, {"building": HOUSE, "web": WEB, "kind": "any", "area": "hall"}, ANY),
    (wheels.wheel_of, {"calendar": CALENDAR}, {}), (wheels.is_wheel, {"value": WHEEL}, {}),
    (wheels.wheel_plan, {"wheel": WHEEL, "date": (2026, 11, 20)}, {}),
    (wheels.combined, {"one": WHEEL, "other": BARE, "table": TABLE}, WHEELS),
    (wheels.first_unlike, {"one": WHEEL, "other": BARE, "date": (2026, 11, 20)}, WHEELS),
    (wheels.next_change, {"wheel": WHEEL, "date": (2026, 11, 20), "hour": 5}, {}),
    (modes.calendar_meets, {"machine": PRESSED, "wheel": BARE, "buttons": {"night": 0, "day": 1}, "question": QUESTION}, {}),
    (modes.journey_end, {"machine": PRESSED, "wheel": BARE, "buttons": {"night": 0, "day": 1}, "journey": JOURNEY}, {}),
    (journals.journal, {"bench": BENCH}, {}), (journals.first_wrong, {"text": TEXT, "household": [2, 1], "lines": LINES}, {})]
MADE = (trees.Tree,)


def is_kept(error, value):
    """Whether an object is what a parameter is there for."""
    kinds = {errors.BadBench: bench.Bench, errors.BadMachine: machines.Machine, errors.BadTree: trees.Tree}
    return error in kinds and isinstance(value, kinds[error])


class Wrong(test_wrong.Wrong):
    calls, named, lists = CALLS, NAMED, test_wrong.LISTS + ("lines", "household")

    def test_any_value_in_each_place(self):
        values = helper.any_values() + [TREE]
        for call, args, special, name in self.each_parameter():
            error, fields, good = self.told(name, special)
            for value in values:
                if not is_kept(error, value) and not test_wrong.is_right(value, good):
                    self.check(call, {**args, name: value}, error, fields, f"{call.__name__} {name} {str(value)[:60]}")

    def test_any_value_in_questions(self):
        for call, args, special in self.calls:
            if "value" in args and "value" not in special:
                self.assertIs(call(**args), True, call.__name__)
                for value in helper.any_values():
                    self.assertIs(call(**{**args, "value": value}), False, f"{call.__name__} {str(value)[:60]}")

    def test_start_of_machine(self):
        """Wrong persons, wrong places: what is told behind them is not looked at."""
        with self.assertRaises(errors.BadFew):
            trees.Tree(HOUSE, WEB, (2,), 0)
        with self.assertRaises(errors.BadStanding):
            lifttexts.lift_of(LIFT, BEGIN)


class Results(test_wrong.Results):
    calls = [call for call in CALLS if call[0] not in MADE]

    def test_objects_are_equal_to_nothing_else(self):
        for value in helper.any_values() + [TEXT, WORLD, SMALL, PLAIN, trees.Tree, trees.Tree(HOUSE, WEB, (2, "many"), 900)]:
            self.assertFalse(TREE == value)
            self.assertTrue(TREE != value)
        for call in (iter, list):
            with self.assertRaises(TypeError):
                call(TREE)


if __name__ == "__main__":
    unittest.main()
