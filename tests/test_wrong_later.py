"""The same as test_wrong for the files behind panels.py: wrong values in each place, results that are new."""
import copy
import unittest

import helper
import test_wrong
from helper import BEGIN, HOUSE, PLAIN, SMALL, TEXT, WORLD
from housekept import (bench, calendars, comfort, counts, days, desk, errors, escapes, exchange, games, guarded, joined, logs,
                       machines, marks, readtexts, seams, storms, tables, texts, warmth)
from test_wrong import AIR, CROWD, MACHINE, OTHER, PARTING, SPLIT, WATCH

SMALL_WORLD = ("world", (), (), (), 0)
ONE = machines.Machine(PLAIN, SMALL_WORLD)
NEW = TEXT[:2] + ((("mode", ("night", "day")),), (("lamp", 2),), (), TEXT[5][:2])
PLAIN_NEW = PLAIN[:2] + ((("mode", ("day", "night")),),) + PLAIN[3:]
AFTER = exchange.carried(TEXT, NEW, BEGIN)
PASSAGE = {BEGIN: AFTER}
NEEDS = (("any", "hall", 1), ("guest", "lab", 2))
PROMISE = ("never", ("both", ("running", "lamp"), ("stands", "front", "free")), NEEDS[:1])
PLAN = ((0, "night"), (7, "day"))
CALENDAR = ("calendar", (PLAN,) * 7, ((("shift", ("nth", 5, 0, -1), 3), ((0, "day"),)),), (((2026, 11, 20), ((0, "late"),)),))
WARM = comfort.Comfort(AIR, ((), ("stove",)), ((), ("inner",)))
AIR_ONE = ("air", (("hall", 1, 3, 2),), 3, (("hall", "out", 1, "door"),), (("stove", "hall", 3),), (0, 1, 0, 1))
PAPER = comfort.comfort_paper(AIR_ONE, ((), ("stove",)), ((), ("door",)))
LEAFS = HOUSE[:2] + (tuple(door[:3] + ("leaf",) for door in HOUSE[2]),) + HOUSE[3:]
OPEN = ("text", LEAFS) + TEXT[2:]
LOG = ("log", (("ann", "guest"), ("bob", "staff")), ("dull", "deaf"),
       ((("card", "front", 0, "guest"), 0), (("pass", "front", 0), None), (("button", 1), None)))
COURSE = ([(), (), (), ()], [None, 1, None])
ROW = [("card", "front", 0, "guest"), ("pass", "front", 0)]
CROWD_COURSE = (2, [(2, 0, 0), (1, 1, 0), (1, 1, 0)])
STRING = texts.text_of(PLAIN)


def busy():
    """A bench behind some deeds."""
    one = bench.Bench(TEXT, [2, 1])
    one.keep("a")
    one.show("guest", "front", 0)
    return one


BENCH = busy()


def controller(memory, degrees, weather):
    return (0, (memory + 1) % 10)


NAMED = {**test_wrong.NAMED, "t": (errors.BadTicks, {}, ()), "labels": (errors.BadLabel, {}, ((),)), "hindrance": (errors.BadHindrance, {}, ()),
         "fitting": (errors.BadFitting, {}, ((),)), "others": (errors.BadOthers, {}, ((),)), "old": (errors.BadText, {}, ()), "new": (errors.BadText, {}, ()), "passage": (errors.BadPassage, {}, ({},)),
         "needs": (errors.BadNeeds, {}, ((),)), "some": (errors.BadNumbers, {}, ((),)), "to": (errors.BadTo, {}, ()),
         "date": (errors.BadDate, {}, ()), "number": (errors.BadNumber, {}, ()), "year": (errors.BadYear, {}, ()),
         "when": (errors.BadWhen, {}, ()), "calendar": (errors.BadCalendar, {}, ()), "hour": (errors.BadHour, {}, ()),
         "choices": (errors.BadChoices, {}, (([],), ((),))[1:]), "doors": (errors.BadDoors, {}, (((),),)[:0]),
         "state": (errors.BadState, {}, ()), "choice": (errors.BadChoice, {}, ()), "before": (errors.BadChoice, {}, (None,)),
         "comfort": (errors.BadComfort, {}, ()), "ticks": (errors.BadTicks, {}, ()), "log": (errors.BadLog, {}, ()),
         "moment": (errors.BadMoment, {}, ()), "course": (errors.BadCourse, {}, ()), "eyes": (errors.BadEyes, {}, ()),
         "count": (errors.BadCount, {}, ()), "areas": (errors.BadAreas, {}, ()), "greatest": (errors.BadGreatest, {}, (True, False)),
         "string": (errors.BadWord, {"line": 1, "word": 1}, ("", "any", "Front", "x" * 20000, "no such", "Seven", "\u00e9", "a b")),
         "one": (errors.BadMachine, {}, ()), "other": (errors.BadMachine, {}, ())}
FIRE = machines.Machine(PLAIN, ("world", ("room",), (), (), 0))
MARKED = ("web", (0, 1), (((("a", 1), None, None, 1),), ((("tick",), None, None, 0), (("b",), None, None, 1))))
STORM = storms.Storm(WATCH)
WARM_TEXT = PLAIN[:2] + ((("stove", ("off", "on")),),) + PLAIN[3:]
WARM_MACHINE = machines.Machine(WARM_TEXT, ("world", (), (0,), (), 0))
WARM_AIR = ("air", (("room", 17, 22, 20),), 10, (("room", "out", 1, None),), (("stove", "room", 30),), (0, 4, 2, 1))
WARMTH = warmth.Warmth(WARM_MACHINE, WARM_AIR, (), ())
GUARDED = guarded.Guarded(MACHINE, WATCH, (("button", 1), ("card", "front", 0, "guest")))
INNER = {"area": (errors.BadArea, {}, ()), "t": (errors.BadTicks, {}, ())}
DOOR = {"door": (errors.BadDoor, {}, ())}
MARKS = {"one": (errors.BadMark, {}, ()), "other": (errors.BadMark, {}, ())}
LABELS = {"row": (errors.BadLabels, None, ([], ()))}
MAYBE = {"household": (errors.BadHousehold, {}, (None, (10 ** 99,)))}
KEPT = {"name": (errors.NotKept, {}, ())}

CALLS = [
    (joined.joint_web, {"text": SPLIT, "parting": PARTING, "net": ("net", 0, 1), "world": SMALL_WORLD}, {}),
    (joined.joint_behind, {"text": SPLIT, "parting": PARTING, "net": ("net", 0, 1), "world": WORLD,
                           "row": [("tick", "stay", "stay"), ("tick", 0, "stay"), ("button", 1)]}, LABELS),
    (seams.beside, {"one": MACHINE, "other": OTHER}, {}), (seams.seam, {"one": ONE, "other": ONE, "looks": ("doors",)}, {}),
    (seams.healing, {"one": ONE, "other": ONE, "looks": ("doors", "words"), "to": (0,) * len(ONE)}, {}),
    (seams.never_heals, {"one": ONE, "other": ONE, "looks": ("doors", "words"), "to": (0,) * len(ONE)}, {}),
    (seams.best_passage, {"one": ONE, "other": ONE, "looks": ("doors",)}, {}),
    (exchange.carried, {"old": TEXT, "new": NEW, "standing": BEGIN}, {}),
    (exchange.is_passage, {"old": TEXT, "new": NEW, "value": PASSAGE}, {}),
    (exchange.goes_to, {"old": TEXT, "new": NEW, "passage": PASSAGE, "standing": BEGIN}, {}),
    (exchange.exchange_web, {"machine": MACHINE, "new": NEW, "passage": PASSAGE}, {}),
    (exchange.bad_moments, {"machine": ONE, "new": PLAIN_NEW, "passage": {}, "question": ("is", "door", "free"),
                            "needs": (("any", "room", 2),)}, {}),
    (exchange.good, {"machine": ONE, "new": PLAIN_NEW, "passage": {}, "question": ("is", "door", "free"),
                     "needs": (("any", "room", 2),), "household": (1,)}, MAYBE),
    (exchange.sure_wait, {"machine": MACHINE, "some": (0, 2, 3)}, {}), (exchange.no_wait, {"machine": MACHINE, "some": (0, 2, 3)}, {}),
    (bench.Bench, {"text": TEXT, "household": [2, 1]}, {}),
    (BENCH.copy, {}, {}), (BENCH.crowd, {}, {}), (BENCH.doors, {}, {}), (BENCH.holds, {"promise": PROMISE}, {}),
    (BENCH.still, {"promise": PROMISE, "world": SMALL_WORLD}, {}), (BENCH.guarded, {"promise": PROMISE, "world": SMALL_WORLD}, {}),
    (days.number_of, {"date": (2026, 11, 20)}, {}), (days.date_of, {"number": 739574}, {}), (days.kind_of, {"year": 2026}, {}),
    (calendars.is_calendar, {"value": CALENDAR}, {}),
    (calendars.told_day, {"when": ("moved", ("shift", ("date", 12, 25), 1), 6, 2), "year": 2026}, {}),
    (calendars.plan_on, {"calendar": CALENDAR, "date": (2026, 5, 28)}, {}),
    (calendars.mode_at, {"calendar": CALENDAR, "date": (2026, 11, 20), "hour": 7}, {}),
    (comfort.Comfort, {"air": AIR, "choices": ((), ("stove",)), "doors": ((), ("inner",))}, {}),
    (WARM.states, {}, {}), (WARM.rank, {"state": ((20, 20), 1)}, {}), (WARM.free, {"state": ((20, 20), 1)}, {}),
    (WARM.answer, {"state": ((20, 20), 1), "choice": 1}, {}),
    (comfort.comfort_paper, {"air": AIR_ONE, "choices": ((), ("stove",)), "doors": ((), ("door",))}, {}),
    (comfort.is_comfort_paper, {"air": AIR_ONE, "choices": ((), ("stove",)), "doors": ((), ("door",)), "value": PAPER}, {}),
    (comfort.escape, {"comfort": WARM, "state": ((20, 20), 1), "controller": controller}, {}),
    (comfort.least_switches, {"comfort": WARM, "state": ((20, 20), 1), "before": 1, "ticks": 3}, {}),
    (logs.is_log, {"text": OPEN, "value": LOG}, {}), (logs.standings, {"text": OPEN, "log": LOG}, {}),
    (logs.links, {"text": OPEN, "log": LOG, "moment": 2}, {}), (logs.first_impossible, {"text": OPEN, "log": LOG}, {}),
    (logs.is_course, {"text": OPEN, "log": LOG, "value": COURSE}, {}), (logs.placed, {"text": OPEN, "log": LOG, "course": COURSE}, {}),
    (logs.course_of, {"text": OPEN, "log": LOG}, {}),
    (counts.crowd_fits, {"text": OPEN, "eyes": ("dull", "deaf"), "row": ROW}, {}),
    (counts.numbers_there, {"text": OPEN, "eyes": ("dull", "deaf"), "row": ROW, "count": 3, "moment": 2, "areas": ("hall", "lab")}, {}),
    (counts.bounds_there, {"text": OPEN, "eyes": ("dull", "deaf"), "row": ROW, "moment": 2, "areas": ("hall",)}, {}),
    (counts.crowd_course, {"text": OPEN, "eyes": ("dull", "deaf"), "row": ROW, "moment": 2, "areas": ("lab",), "greatest": False}, {}),
    (counts.is_crowd_course, {"text": OPEN, "eyes": ("dull", "deaf"), "row": ROW, "value": CROWD_COURSE}, {}),
    (counts.least_lies, {"text": OPEN, "log": LOG}, {}),
    (escapes.aged, {"machine": FIRE, "area": "room", "most": 2}, {**INNER, "most": (errors.BadTicks, {}, ())}),
    (escapes.free_areas, {"machine": FIRE, "at": 1, "area": "out"}, {}),
    (escapes.bad_places, {"machine": FIRE, "area": "room", "t": 1}, INNER), (escapes.shut_in, {"machine": FIRE, "area": "room", "t": 1}, INNER),
    (escapes.safe_after, {"machine": FIRE, "area": "room"}, INNER),
    (escapes.safe_for, {"machine": FIRE, "area": "room", "household": (2,)}, {**INNER, "household": (errors.BadHousehold, {}, ((10 ** 99,),))}),
    (marks.is_walk, {"web": MARKED, "value": (0, ((("a", 1), 1), (("tick",), 0)))}, {}), (marks.comes, {"web": MARKED}, {}),
    (marks.is_mark, {"web": MARKED, "value": ((0, 1), (("tick",), ("a", 1)))}, {}),
    (marks.mark_of, {"machine": MACHINE, "question": ("running", "lamp"), "labels": (("go", "guest", "front", 0),)}, {}),
    (marks.free_marks, {"machine": MACHINE, "door": "front"}, DOOR),
    (marks.open_places, {"web": MARKED, "one": ((0,), (("a", 1),)), "other": ((), (("b",),)), "t": 3}, MARKS),
    (marks.starts, {"web": MARKED, "one": ((0,), (("a", 1),)), "other": ((), (("b",),))}, MARKS),
    (games.way_outs, {"machine": MACHINE, "kind": "guest", "hindrance": 1}, {}),
    (games.deeds_out, {"machine": MACHINE, "kind": "guest", "hindrance": 1, "at": 3, "area": "hall", "row": [("button", 1)]},
     {"row": (errors.BadHinder, {}, ([], ()))}),
    (games.hinder, {"machine": MACHINE, "kind": "guest", "hindrance": 1, "at": 3, "area": "hall", "t": 2}, {}),
    (storms.Storm, {"watch": WATCH}, {}), (STORM.longest, {"word": 1}, {}), (STORM.course, {"word": 4}, {}),
    (warmth.Warmth, {"machine": WARM_MACHINE, "air": WARM_AIR, "fitting": (("room", "cold", 19, 0),), "others": (("card", "door", 0, "guest"),)}, {}),
    (WARMTH.moments, {}, {}), (WARMTH.broken, {}, {}),
    (guarded.Guarded, {"machine": MACHINE, "watch": WATCH, "others": (("button", 1), ("card", "front", 0, "guest"))}, {}),
    (GUARDED.longest, {"word": 1}, {}), (GUARDED.said, {"signal": ("button", 1), "word": 1}, {}),
    (GUARDED.answered, {"signal": ("button", 1), "word": 4}, {}), (GUARDED.worst, {"signal": ("button", 1), "word": 4}, {}),
    (desk.Desk().say, {"line": "tick"}, {}),
    (readtexts.text_from, {"string": STRING}, {}), (readtexts.ended, {"string": STRING}, {}), (texts.text_of, {"text": TEXT}, {})]

MADE = (bench.Bench, comfort.Comfort, BENCH.copy, storms.Storm, warmth.Warmth, guarded.Guarded)
# Calls that let a value be a list at a place where it is a tuple: parameter and path.
LISTS_LET = {bench.Bench: ("household", ()), logs.placed: ("course", (0,)), logs.is_course: ("value", (0,))}
LISTS = test_wrong.LISTS + ("household",)


class Wrong(test_wrong.Wrong):
    calls, named = CALLS, NAMED

    def is_let(self, name, value):
        return (isinstance(value, comfort.Comfort) and name == "comfort") or (
            isinstance(value, machines.Machine) and name in ("one", "other", "machine"))

    def test_any_value_in_each_place(self):
        values = helper.any_values()
        for call, args, special, name in self.each_parameter():
            error, fields, good = self.told(name, special)
            for value in values:
                if name == "string" and type(value) is str or self.is_let(name, value) or test_wrong.is_right(value, good):
                    continue
                self.check(call, {**args, name: value}, error, fields, f"{call.__name__} {name} {str(value)[:60]}")

    def test_truths_are_no_wholes_and_lists_no_tuples(self):
        for call, args, special, name in self.each_parameter():
            error, _, _ = self.told(name, special)
            value = args[name]
            if type(value) not in (int, list, tuple):
                continue
            for path, item in helper.nodes(value):
                new = []
                if type(item) is tuple and not (name in ("row", "moves") and path == ()):
                    new.append(list(item))
                if type(item) is int:
                    new.extend([bool(item), {}, (item,)] + ([] if name in ("net", "before", "course") else [None]))
                for one in new:
                    wrong = {**args, name: helper.put(value, path, one)}
                    if error is errors.BadHousehold and path == ():
                        continue
                    self.check(call, wrong, error, {}, f"{call.__name__} {name} {path} {one}")

    def test_truths_and_lists_are_seen_by_questions_too(self):
        for call, args, _ in CALLS:
            if call.__name__.startswith("is_") and "value" in args:
                for path, item in helper.nodes(args["value"]):
                    if type(item) is tuple:
                        wrong = {**args, "value": helper.put(args["value"], path, list(item))}
                        self.assertIs(call(**wrong), False, f"{call.__name__} {path}")
                    if type(item) is int:
                        wrong = {**args, "value": helper.put(args["value"], path, bool(item))}
                        self.assertIs(call(**wrong), False, f"{call.__name__} {path}")

    def test_any_value_in_questions(self):
        for call, args, _ in CALLS:
            if "value" in args:
                self.assertIs(call(**args), True, call.__name__)
                for value in helper.any_values():
                    empty = call is exchange.is_passage and value == {}
                    self.assertIs(call(**{**args, "value": value}), empty, f"{call.__name__} {str(value)[:60]}")

    def test_start_of_machine(self):
        for value in helper.any_values():
            with self.assertRaises(errors.BadPassage if value != {} else errors.BadStanding):
                exchange.goes_to(TEXT, NEW, value, None)


class Results(test_wrong.Results):
    calls = [call for call in CALLS if call[0] not in MADE]

    def test_what_is_made_is_equal_or_another_one(self):
        household = [2, 1]
        self.assertTrue(bench.Bench(TEXT, household) == bench.Bench(text=TEXT, household=household) == bench.Bench(TEXT, (2, 1)))
        self.assertEqual(household, [2, 1])
        two = comfort.Comfort(air=AIR, choices=((), ("stove",)), doors=((), ("inner",)))
        self.assertEqual((two.air, two.choices, two.doors), (WARM.air, WARM.choices, WARM.doors))
        self.assertFalse(two == WARM)

    def test_objects_are_equal_to_nothing_else(self):
        for thing in (BENCH, WARM, STORM, WARMTH, GUARDED, desk.Desk()):
            for value in helper.any_values() + [TEXT, WORLD, OTHER, SMALL, CROWD, tables.Table]:
                self.assertFalse(thing == value)
                self.assertTrue(thing != value)
            for call in (iter, list):
                with self.assertRaises(TypeError):
                    call(thing)

    def test_deeds_by_position_and_by_name(self):
        rows = [("show", {"kind": "guest", "door": "front", "side": 0}), ("go", {"kind": "guest", "door": "front", "side": 0}),
                ("signal", {"signal": ("button", 1)}), ("exchange", {"text": NEW}), ("keep", {"name": "b"}), ("back", {"name": "a"})]
        one, other = bench.Bench(TEXT, [2, 1]), bench.Bench(TEXT, [2, 1])
        one.keep("a")
        other.keep("a")
        for word, args in rows:
            kept = copy.deepcopy(args)
            self.assertEqual(getattr(one, word)(**args), getattr(other, word)(*args.values()))
            self.assertEqual(args, kept)
        self.assertTrue(one == other)
        self.assertEqual(one.tried(task=len), other.tried(len))


if __name__ == "__main__":
    unittest.main()
