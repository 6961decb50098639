"""Wrong values in the place of each parameter; parameters by position and by name; what is returned is new."""
import copy
import unittest

import helper
from helper import BEGIN, HOUSE, PLAIN, TEXT, WORLD
from housekept import (air, alarms, buildings, courses, crowds, errors, households, judging, least, letters, machines,
                       meaning, panels, promises, reasons, rights, rounds, rules, tables, ways, webs)

MACHINE = machines.Machine(TEXT, WORLD)
OTHER = machines.Machine(TEXT, WORLD, start=meaning.behind(TEXT, [("button", 1)]))
WEB = ("web", (0, 1),
       (((("go", 1), ("guest", "out"), ("guest", "hall"), 1), (("tick",), None, None, 0)),
        ((("go", 1), ("guest", "hall"), ("guest", "lab"), 0), (("tick",), None, None, 1))))
CROWD = ((2, 0, 1), (1, 0, 0))
LOADS = ((((0, 0, 2), (0, 0, 0)),), ())
PROMISE = ("never", (0,), (("guest", "lab", 2), ("any", "hall", 1)))
TABLE = tables.Table(HOUSE, WEB, LOADS, 50)
AIR = ("air", (("hall", 18, 24, 20), ("lab", 17, 22, 20)), 10,
       (("hall", "lab", 2, "inner"), ("lab", "hall", 2, "inner"), ("hall", "out", 1, None)),
       (("stove", "hall", 30),), (0, 4, 0, 1))
WATCH = ("watch", ((1, 1, 2), (4, 3, 1)), (("ann", 2), ("bob", 0)), 1, 2, "keep")
WATCHED = (((1, 5),), (0, -1))
PARTING = ("parting", 2, (0, 1, 0, 1, 0, 0, 0) + (0, 0, 0, 0, 1, 1), 2, ("shut", "free", "yes", "no", "night"))
SPLIT = TEXT[:5] + (((("card", "front", "any", "any"), ("right",), (("let", "front", "free"), ("say", 1))),
                     (("card", "inner", "any", "staff"), ("is", "front", "free"), (("let", "inner", "free"),)),
                     (("tick",), ("is", "inner", "free"), (("say", 2),)),
                     (("button", 5), ("always",), ())),)
NET = ("net", 1, 2)
LETTERS = [(), (1,), (0, 2, 1), ()]
QUESTION = ("both", ("stands", "front", "free"), ("not", ("running", "lamp")))
SIGNAL = ("card", "front", 0, "guest")
THING = ("variable", "front")

# By parameter: the error, its fields, and which values of any_values() are right there.
NAMED = {
    "building": (errors.BadBuilding, {}, ()), "text": (errors.BadText, {}, ()), "area": (errors.BadArea, {}, ()),
    "kind": (errors.BadKind, {}, ()), "door": (errors.BadDoor, {}, ()), "side": (errors.BadSide, {}, ()),
    "free": (errors.BadDoors, {}, ([], ())), "company": (errors.BadCompany, {}, ([], ())),
    "standing": (errors.BadStanding, {}, ()), "signal": (errors.BadSignal, {}, ()), "name": (errors.BadName, {}, ()),
    "told": (errors.BadTold, {}, ([], ())), "right": (errors.BadRight, {}, (True, False)),
    "row": (errors.BadRow, {}, ([], ())), "order": (errors.BadOrder, {}, ()), "names": (errors.BadNames, {}, ({},)),
    "thing": (errors.BadThing, {}, ()), "world": (errors.BadWorld, {}, ()), "start": (errors.BadStanding, {}, (None,)),
    "machine": (errors.BadMachine, {}, ()), "at": (errors.BadNumber, {}, ()), "looks": (errors.BadLooks, {}, ()),
    "question": (errors.BadQuestion, {}, ()), "lot": (errors.BadLot, {}, ([], ())), "some": (errors.BadLot, {}, ()),
    "web": (errors.BadWeb, {}, ()), "crowd": (errors.BadCrowd, {}, ()), "household": (errors.BadHousehold, {}, ()),
    "crowds": (errors.BadCrowds, {}, ([], ())), "place": (errors.BadPlace, {}, ()),
    "moves": (errors.BadMoves, {"at": 0}, ([], ())), "move": (errors.BadMove, {}, ()), "loads": (errors.BadLoads, {}, ()),
    "promise": (errors.BadPromise, {}, ()), "most": (errors.BadMost, {}, ()), "k": (errors.BadRound, {}, (10 ** 99,)),
    "table": (errors.BadTable, {}, ()), "air": (errors.BadAir, {}, ()), "degrees": (errors.BadDegrees, {}, ()),
    "weather": (errors.BadWeather, {"at": 0}, ()), "setting": (errors.BadSetting, {}, ()),
    "watch": (errors.BadWatch, {}, ()), "word": (errors.BadAlarm, {}, ()), "age": (errors.BadTicks, {}, (10 ** 99,)),
    "words": (errors.BadWords, {}, ((),)), "sleepers": (errors.BadSleepers, {}, ((),)),
    "ticks": (errors.BadTick, {"at": 0}, ([], ())), "letters": (errors.BadLetters, {}, ([], ())),
    "patience": (errors.BadPatience, {}, ()), "net": (errors.BadNet, {}, ()), "parting": (errors.BadParting, {}, ()),
    "panel": (errors.BadPanel, {}, ()), "one": (errors.BadCrowd, {}, ()), "other": (errors.BadCrowd, {}, ())}
SIGNALS = {"one": (errors.BadSignal, {}, ()), "other": (errors.BadSignal, {}, ())}
STANDINGS = {"one": (errors.BadStanding, {}, ()), "other": (errors.BadStanding, {}, ())}
AREAS = {"other": (errors.BadArea, {}, ())}
MACHINES = {"one": (errors.BadMachine, {}, ()), "other": (errors.BadMachine, {}, ())}
LABELS = {"row": (errors.BadLabels, None, ([], ()))}
POINTERS = {"row": (errors.BadPointers, {}, ([], ()))}
ANY_KIND = {"kind": (errors.BadKind, {}, ("any",))}

# Each function with right arguments in their order, and what parameters mean otherwise than in NAMED.
CALLS = [
    (buildings.is_name, {"value": "hall"}, {}), (buildings.is_building, {"value": HOUSE}, {}),
    (buildings.area_at, {"building": HOUSE, "door": "front", "side": 1}, {}),
    (ways.joined, {"building": HOUSE, "free": ["inner"]}, {}),
    (ways.least_way, {"building": HOUSE, "free": ["front", "inner"], "area": "out", "other": "lab"}, AREAS),
    (ways.parting, {"building": HOUSE, "free": ["inner", "front"], "area": "out", "other": "lab"}, AREAS),
    (ways.narrows, {"building": HOUSE, "free": ["front", "inner"], "area": "out", "other": "lab"}, AREAS),
    (rights.company_reach, {"building": HOUSE, "company": ["staff", "guest"], "area": "out"}, {}),
    (rights.helpers, {"building": HOUSE, "kind": "guest", "area": "lab"}, {}),
    (rights.stranded, {"building": HOUSE, "company": ["staff"]}, {}),
    (rules.is_text, {"value": TEXT}, {}), (rules.fault, {"value": TEXT[:5] + ((),)}, {}),
    (rules.variables, {"text": TEXT}, {}), (rules.signals, {"text": TEXT}, {}), (rules.begin, {"text": TEXT}, {}),
    (rules.is_signal, {"text": TEXT, "value": SIGNAL}, {}), (rules.is_standing, {"text": TEXT, "value": BEGIN}, {}),
    (rules.stands, {"text": TEXT, "standing": BEGIN, "door": "front"}, {}),
    (rules.value_of, {"text": TEXT, "standing": BEGIN, "name": "smoke:lab"}, {}),
    (rounds.by_itself, {"text": TEXT, "standing": BEGIN, "signal": ("smoke", "lab", "yes")}, {}),
    (rounds.once, {"text": TEXT, "standing": BEGIN, "told": [SIGNAL], "right": True}, {}),
    (rounds.told_next, {"text": TEXT, "one": BEGIN, "other": (("free",) + BEGIN[0][1:],) + BEGIN[1:]}, STANDINGS),
    (meaning.meaning, {"text": TEXT, "standing": BEGIN, "signal": SIGNAL}, {}),
    (meaning.is_void, {"text": TEXT, "standing": BEGIN, "signal": SIGNAL}, {}),
    (meaning.run, {"text": TEXT, "standing": BEGIN, "row": [SIGNAL, ("tick",)]}, {}),
    (meaning.behind, {"text": TEXT, "row": [SIGNAL, ("tick",)]}, {}),
    (meaning.reordered, {"text": PLAIN, "order": (2, 0, 1)}, {}),
    (meaning.renamed, {"text": TEXT, "names": {"mode": "phase", "lamp": "mode"}}, {}),
    (reasons.reason, {"text": TEXT, "standing": BEGIN, "signal": SIGNAL, "thing": THING}, {}),
    (reasons.is_reason, {"text": TEXT, "standing": BEGIN, "signal": SIGNAL, "thing": THING, "value": ()}, {}),
    (reasons.reach, {"text": TEXT, "signal": SIGNAL}, {}), (reasons.writes, {"text": TEXT, "signal": SIGNAL}, {}),
    (reasons.reads, {"text": TEXT, "signal": SIGNAL}, {}),
    (reasons.apart, {"text": TEXT, "one": SIGNAL, "other": ("button", 1)}, SIGNALS),
    (machines.is_world, {"text": TEXT, "value": WORLD}, {}), (machines.whole_world, {"text": TEXT}, {}),
    (machines.signals_in, {"text": TEXT, "world": WORLD}, {}),
    (machines.answers, {"machine": MACHINE, "row": [SIGNAL, ("button", 1)]}, {}),
    (machines.way, {"machine": MACHINE, "at": 5}, {}),
    (least.alike, {"one": MACHINE, "other": OTHER, "looks": ("words",)}, MACHINES),
    (least.classes, {"machine": MACHINE, "looks": ("doors", "words")}, {}),
    (least.least, {"machine": MACHINE, "looks": ("doors", "endless")}, {}),
    (judging.holds, {"machine": MACHINE, "at": 3, "question": QUESTION}, {}),
    (judging.met, {"machine": MACHINE, "question": QUESTION}, {}),
    (judging.always, {"machine": MACHINE, "question": QUESTION}, {}), (judging.fires, {"machine": MACHINE}, {}),
    (judging.clashes, {"machine": MACHINE}, {}), (judging.endless, {"machine": MACHINE}, {}),
    (judging.without, {"text": TEXT, "lot": [0, 2]}, {}),
    (judging.can_go, {"text": PLAIN, "world": ("world", (), (), (), 0), "looks": ("doors",), "some": [0, 1, 2]}, {}),
    (judging.two_orders, {"machine": MACHINE}, {}),
    (judging.commute, {"machine": MACHINE, "one": SIGNAL, "other": ("button", 1)}, SIGNALS),
    (webs.is_web, {"value": WEB}, {}), (webs.web_of, {"machine": MACHINE}, {}),
    (webs.places_of, {"web": WEB, "row": [("go", 1), ("tick",)]}, LABELS),
    (air.is_air, {"value": AIR}, {}), (air.is_setting, {"air": AIR, "value": (("stove",), ())}, {}),
    (air.next_degrees, {"air": AIR, "degrees": (20, 19), "weather": 1, "setting": (("stove",), ("inner",))}, {}),
    (alarms.is_watch, {"value": WATCH}, {}), (alarms.shown_to, {"watch": WATCH, "word": 1, "age": 2}, {}),
    (alarms.watch_tick, {"watch": WATCH, "standing": WATCHED, "words": (1, 4), "sleepers": (0,)}, {}),
    (alarms.watched, {"watch": WATCH, "ticks": [((1, 4), (0,)), ((), ())]}, {}),
    (alarms.shortened, {"watch": WATCH, "standing": WATCHED}, {}),
    (crowds.is_crowd, {"building": HOUSE, "value": CROWD}, {}),
    (crowds.is_household, {"building": HOUSE, "value": (3, 0)}, {}),
    (crowds.crowd_at, {"building": HOUSE, "household": (3, 0)}, {}),
    (crowds.household_of, {"building": HOUSE, "crowd": CROWD}, {}),
    (crowds.count_there, {"building": HOUSE, "crowd": CROWD, "kind": "any", "area": "out"}, ANY_KIND),
    (crowds.is_within, {"building": HOUSE, "one": CROWD, "other": CROWD}, {}),
    (crowds.least_crowds, {"building": HOUSE, "crowds": [CROWD, ((3, 0, 1), (1, 0, 0)), CROWD]}, {}),
    (courses.led, {"building": HOUSE, "web": WEB, "place": 0, "crowd": CROWD, "moves": [WEB[2][0][0]]}, {}),
    (courses.ahead, {"building": HOUSE, "move": WEB[2][0][0], "crowd": CROWD}, {}),
    (promises.is_promise, {"building": HOUSE, "web": WEB, "value": PROMISE}, {}),
    (promises.is_broken, {"building": HOUSE, "web": WEB, "promise": PROMISE, "place": 0, "crowd": CROWD}, {}),
    (promises.are_met, {"building": HOUSE, "web": WEB, "loads": LOADS, "place": 0, "crowd": CROWD}, {}),
    (promises.places_where, {"machine": MACHINE, "question": QUESTION}, {}),
    (promises.loads_of, {"building": HOUSE, "web": WEB, "promise": PROMISE}, {}),
    (promises.brute, {"building": HOUSE, "web": WEB, "loads": LOADS, "place": 0, "crowd": CROWD, "most": 9}, {}),
    (tables.Table, {"building": HOUSE, "web": WEB, "loads": LOADS, "most": 50}, {}),
    (TABLE.least, {"place": 1, "k": 2}, {}), (TABLE.paper, {}, {}), (TABLE.left, {"place": 0, "crowd": CROWD}, {}),
    (TABLE.next_move, {"place": 0, "crowd": CROWD}, {}), (TABLE.moves_left, {"place": 0, "crowd": CROWD}, {}),
    (households.households_of, {"table": TABLE}, {}),
    (households.households, {"building": HOUSE, "web": WEB, "promise": PROMISE}, {}),
    (households.holds_for, {"table": TABLE, "household": (1, 0)}, {}),
    (households.is_break, {"building": HOUSE, "web": WEB, "loads": LOADS, "household": (2, 0), "value": (0, [])}, {}),
    (households.boxes, {"table": TABLE}, {}),
    (households.still_safe, {"table": TABLE, "place": 1, "crowds": [CROWD]}, {}),
    (letters.is_letters, {"value": LETTERS}, {}), (letters.heard, {"letters": LETTERS, "patience": 1}, {}),
    (letters.is_net, {"value": NET}, {}), (letters.has_net, {"net": NET, "letters": LETTERS}, {}),
    (letters.pointers, {"letters": LETTERS}, {}), (letters.is_pointer_row, {"net": NET, "value": [0, 1, 1]}, {}),
    (letters.letters_of, {"net": NET, "row": [0, 1, 1, 2]}, POINTERS),
    (panels.is_parting, {"text": SPLIT, "value": PARTING}, {}),
    (panels.places, {"text": SPLIT, "parting": PARTING}, {}), (panels.lines, {"text": SPLIT, "parting": PARTING}, {}),
    (panels.panel_text, {"text": SPLIT, "parting": PARTING, "panel": 1}, {}),
    (machines.Machine, {"text": PLAIN, "world": ("world", (), (), (), 0)}, {}),
    (MACHINE.standing, {"at": 3}, {}), (MACHINE.number, {"value": BEGIN}, {}),
    (MACHINE.after, {"at": 3, "signal": SIGNAL}, {})]

# Parameters whose value may be a tuple instead of the list.
LISTS = ("free", "company", "told", "row", "lot", "some", "crowds", "moves", "ticks", "letters")


def same(one, other):
    """Equal with True unlike 1, and lists unlike tuples."""
    if type(one) is not type(other):
        return False
    if type(one) in (list, tuple):
        return len(one) == len(other) and all(same(a, b) for a, b in zip(one, other))
    if type(one) is dict:
        return list(one) == list(other) and all(same(one[key], other[key]) for key in one)
    return one == other


def is_right(value, rights):
    return any(type(value) is type(right) and value == right for right in rights)


class Wrong(unittest.TestCase):
    calls, named, lists = CALLS, NAMED, LISTS

    def told(self, name, special):
        return special.get(name) or self.named.get(name)

    def check(self, call, args, error, fields, said):
        with self.assertRaises(errors.KeptError, msg=said) as caught:
            call(**args)
        self.assertIs(type(caught.exception), error, said)
        for field in fields or {}:
            self.assertEqual(getattr(caught.exception, field), fields[field], said)

    def each_parameter(self):
        for call, args, special in self.calls:
            for name in args:
                if self.told(name, special) is not None:
                    yield call, args, special, name

    def test_any_value_in_each_place(self):
        values = helper.any_values()
        for call, args, special, name in self.each_parameter():
            error, fields, good = self.told(name, special)
            for value in values:
                if isinstance(value, machines.Machine) and error is errors.BadMachine:
                    continue
                if isinstance(value, tables.Table) and error is errors.BadTable:
                    continue
                if not is_right(value, good):
                    said = f"{call.__name__} {name} {str(value)[:60]}"
                    self.check(call, {**args, name: value}, error, fields, said)

    def test_start_of_machine(self):
        for value in helper.any_values():
            if value is not None:
                self.check(machines.Machine, {"text": PLAIN, "world": ("world", (), (), (), 0), "start": value},
                           errors.BadStanding, {}, str(value)[:60])
        with self.assertRaises(errors.BadWorld):
            machines.Machine(PLAIN, (), start=())

    def test_leftmost_error_comes_first(self):
        for call, args, special, name in self.each_parameter():
            names = list(args)
            later = [one for one in names[names.index(name) + 1:] if self.told(one, special)]
            for other in later:
                wrong = {**args, name: {"a": []}, other: {"a": []}}
                error, fields, _ = self.told(name, special)
                self.check(call, wrong, error, fields, f"{call.__name__} {name} {other}")

    def test_truths_are_no_wholes_and_lists_no_tuples(self):
        for call, args, special, name in self.each_parameter():
            error, _, _ = self.told(name, special)
            value = args[name]
            if type(value) not in (int, list, tuple):
                continue
            free = [()] if name in self.lists else []
            for path, item in helper.nodes(value):
                new = []
                if type(item) is tuple and path not in free:
                    new.append(list(item))
                if type(item) is int:
                    new.extend([bool(item), None if name != "net" else "0", {}, (item,)])
                for one in new:
                    wrong = {**args, name: helper.put(value, path, one)}
                    self.check(call, wrong, error, {}, f"{call.__name__} {name} {path} {one}")

    def test_truths_and_lists_are_seen_by_questions_too(self):
        for call, args, _ in self.calls:
            if call.__name__.startswith("is_") and "value" in args:
                value = args["value"]
                for path, item in helper.nodes(value):
                    outer = call in (letters.is_letters, letters.is_pointer_row) and path == ()
                    inner = call is households.is_break and path == (1,)
                    if type(item) is tuple and not outer and not inner:
                        self.assertIs(call(**{**args, "value": helper.put(value, path, list(item))}), False)
                    if type(item) is int:
                        wrong = helper.put(value, path, bool(item))
                        self.assertIs(call(**{**args, "value": wrong}), False, f"{call.__name__} {path}")

    def test_any_value_in_questions(self):
        for call, args, _ in self.calls:
            if "value" not in args or call is rules.fault or call == MACHINE.number:
                continue
            for value in helper.any_values():
                answer = call(**{**args, "value": value})
                self.assertIs(type(answer), bool)
                lists = call in (letters.is_letters, letters.is_pointer_row) and is_right(value, ([], ()))
                if not lists:
                    self.assertIs(answer, False, f"{call.__name__} {str(value)[:60]}")
        for value in helper.any_values():
            self.assertIsNone(MACHINE.number(value))
            self.assertIsNotNone(rules.fault(value))


class Results(unittest.TestCase):
    calls = CALLS

    def test_by_position_and_by_name(self):
        for call, args, _ in self.calls:
            if call not in (machines.Machine, tables.Table):
                self.assertTrue(same(call(*args.values()), call(**args)), call.__name__)

    def test_nothing_passed_in_is_changed(self):
        for call, args, _ in self.calls:
            plain = {name: value for name, value in args.items() if helper.is_plain(value)}
            kept = copy.deepcopy(plain)
            call(**args)
            self.assertTrue(same(plain, kept), call.__name__)

    def test_lists_may_be_tuples(self):
        for call, args, _ in self.calls:
            for name, value in args.items():
                if type(value) is list:
                    self.assertTrue(same(call(**args), call(**{**args, name: tuple(value)})), call.__name__)

    def test_what_is_returned_is_plain_and_new(self):
        for call, args, _ in self.calls:
            if call in (machines.Machine, tables.Table):
                continue
            first = call(**args)
            self.assertTrue(helper.is_plain(first), call.__name__)
            kept = copy.deepcopy(first)
            mine = [id(one) for value in args.values() for one in helper.lists_within(value)]
            for one in list(helper.lists_within(first)):
                self.assertNotIn(id(one), mine, call.__name__)
                one.clear()
            self.assertTrue(same(call(**args), kept), call.__name__)

    def test_objects_are_equal_to_nothing_else(self):
        for thing in (MACHINE, TABLE):
            for value in helper.any_values() + [TEXT, WORLD, OTHER, len(MACHINE)]:
                self.assertFalse(thing == value)
                self.assertTrue(thing != value)
            with self.assertRaises(TypeError):
                iter(thing)
            with self.assertRaises(TypeError):
                list(thing)


if __name__ == "__main__":
    unittest.main()
