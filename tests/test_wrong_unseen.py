"""The same as test_wrong for the last files, from papers.py to whereabouts.py."""
import unittest

import helper
import test_wrong
from helper import HOUSE, PLAIN, SMALL, TEXT, WORLD
from housekept import (errors, papers, plaintexts, rolling, safe, spans, sums, tables, twins, unseen, waits, weathers, whereabouts)
from test_wrong import AIR, LOADS, PARTING, SPLIT, TABLE, WEB
from test_wrong_later import LOG, OPEN
from test_wrong_times import MARKED, ONE, OTHER, QUIET, WHEEL

PAPER = TABLE.paper()
ROLLED = {"old": SPLIT, "new": SPLIT, "parting": PARTING[:3] + (0,) + PARTING[4:], "net": ("net", 0, 0), "world": QUIET}
SILENT = {"text": SPLIT, "parting": PARTING, "world": QUIET, "falls": 1}
ASKED = {"question": ("is", "smoke:lab", "yes"), "needs": (("guest", "lab", 2),)}
KEPT = {"text": SPLIT, "parting": PARTING, "world": QUIET, "falls": 0, "question": ("is", "smoke:lab", "yes"), "needs": (("any", "lab", 1),)}
SILENCE = list(safe.any_silence(**KEPT)[1])
PLAN = [((), ("inner",)), (("stove",), ())]
CHOICES = {"air": AIR[:1] + (AIR[1][:1],) + AIR[2:3] + (AIR[3][2:],) + AIR[4:], "choices": ((), ("stove",)), "doors": ((),)}
GAME = unseen.Unseen(**CHOICES)
KNOWLEDGE = ((20,), 0, 2)
LOGGED = {"text": OPEN, "log": LOG}
BAR = whereabouts.bar(OPEN, LOG, 0, 1, "lab")

NAMED = {**test_wrong.NAMED, "one": (errors.BadMark, {}, ()), "other": (errors.BadMark, {}, ()), "t": (errors.BadTicks, {}, ()),
         "ticks": (errors.BadTicks, {}, ()), "paper": (errors.BadPaper, {}, ()), "falls": (errors.BadFalls, {}, ()),
         "needs": (errors.BadNeeds, {}, ((),)), "old": (errors.BadText, {}, ()), "new": (errors.BadText, {}, ()),
         "plan": (errors.BadPlan, {}, ([], ())), "choices": (errors.BadChoices, {}, ((), ((),))[1:]), "doors": (errors.BadDoors, {}, (((),),)),
         "knowledge": (errors.BadKnowledge, {}, ()), "wheel": (errors.BadWheel, {}, ()), "mode": (errors.BadMode, {}, ()),
         "date": (errors.BadDate, {}, ()), "n": (errors.BadCount, {}, ()), "log": (errors.BadLog, {}, ()),
         "person": (errors.BadPerson, {}, ()), "moment": (errors.BadMoment, {}, ()), "placement": (errors.BadPlacement, {}, ()),
         "course": (errors.BadWeather, None, ()), "rows": (errors.BadDegrees, {}, ())}
ORDERS = {"order": (errors.BadOrder, {}, ())}
DATES = {"other": (errors.BadDate, {}, ())}
PERSONS = {"one": (errors.BadPerson, {}, ()), "other": (errors.BadPerson, {}, ())}
GREAT = {"household": (errors.BadHousehold, {}, ())}

CALLS = [
    (papers.is_paper, {"building": HOUSE, "web": WEB, "loads": LOADS, "value": PAPER}, {}),
    (papers.keeps, {"building": HOUSE, "web": WEB, "loads": LOADS, "paper": PAPER, "household": (1, 0)}, {}),
    (plaintexts.plain_text, {"building": HOUSE}, {}), (plaintexts.is_strict, {"text": PLAIN}, {}),
    (rolling.rolling_web, {**ROLLED, "order": (1, 0)}, ORDERS), (rolling.safe_orders, {**ROLLED, **ASKED}, {}),
    (rolling.bad_mixtures, {**ROLLED, **ASKED}, {}), (safe.controls, SILENT, {}), (safe.any_silence, {**SILENT, **ASKED}, {}),
    (safe.is_silence_table, {**KEPT, "value": SILENCE}, {}), (safe.safe_tables, KEPT, {}),
    (waits.soonest, {"web": MARKED, "one": ONE, "other": OTHER}, {}), (waits.soon, {"web": MARKED, "one": ONE, "other": OTHER}, {}),
    (waits.is_delay, {"web": MARKED, "one": ONE, "other": OTHER, "t": 0, "value": {0: 0, 1: 0}}, {}),
    (waits.delay, {"web": MARKED, "one": ONE, "other": OTHER, "t": 0}, {}), (spans.spans, {"web": MARKED, "one": ONE, "other": OTHER}, {}),
    (sums.hours_of, {"wheel": WHEEL, "mode": "day", "date": (2026, 11, 20), "other": (2027, 1, 1)}, DATES),
    (sums.hour_of, {"wheel": WHEEL, "mode": "day", "date": (2026, 11, 20), "n": 3}, {}),
    (twins.twins, {"building": HOUSE, "web": WEB}, {}), (twins.merged, {"building": HOUSE, "web": WEB}, {}),
    (twins.merged_household, {"building": HOUSE, "web": WEB, "household": (2, 1)}, {}),
    (weathers.run_plan, {"air": AIR, "plan": PLAN, "course": [1, 0]}, {}), (weathers.coldest, {"air": AIR, "ticks": 3}, {}),
    (weathers.hottest, {"air": AIR, "ticks": 3}, {}), (weathers.extremes, {"air": AIR, "plan": PLAN}, {}),
    (weathers.plan_broken, {"air": AIR, "plan": PLAN * 5}, {}), (unseen.Unseen, CHOICES, {}), (unseen.thermometer, CHOICES, {}),
    (GAME.rank, {"knowledge": KNOWLEDGE}, {}), (GAME.free, {"knowledge": KNOWLEDGE}, {}),
    (unseen.is_knowledge, {"air": AIR, "value": ((20, 20), 1, 3)}, {}),
    (unseen.known_after, {"air": AIR, "knowledge": ((20, 20), 0, 4), "setting": ((), ("inner",)), "degrees": (18, 20)}, {}),
    (unseen.weathers_that_fit, {"air": AIR, "plan": PLAN[:1], "rows": [(18, 20)]}, {}),
    (whereabouts.placements, {**LOGGED, "moment": 2}, {}), (whereabouts.may, {**LOGGED, "person": 1, "moment": 2}, {}),
    (whereabouts.may_so_far, {**LOGGED, "person": 1, "moment": 1}, {}),
    (whereabouts.course_with, {**LOGGED, "moment": 0, "placement": ("out", "out")}, {}),
    (whereabouts.together, {**LOGGED, "one": 0, "other": 1, "moment": 2}, PERSONS),
    (whereabouts.bar, {**LOGGED, "person": 0, "moment": 1, "area": "lab"}, {}),
    (whereabouts.is_bar, {**LOGGED, "person": 0, "moment": 1, "area": "lab", "value": BAR}, {})]
MADE = (unseen.Unseen,)


class Wrong(test_wrong.Wrong):
    calls, named, lists = CALLS, NAMED, test_wrong.LISTS + ("plan", "course", "rows")

    def test_any_value_in_each_place(self):
        values = helper.any_values() + [GAME]
        for call, args, special, name in self.each_parameter():
            error, fields, good = self.told(name, special)
            for value in values:
                if not test_wrong.is_right(value, good):
                    self.check(call, {**args, name: value}, error, fields, f"{call.__name__} {name} {str(value)[:60]}")

    def test_any_value_in_questions(self):
        for call, args, _ in self.calls:
            if "value" in args:
                self.assertIs(call(**args), True, call.__name__)
                for value in helper.any_values():
                    self.assertIs(call(**{**args, "value": value}), False, f"{call.__name__} {str(value)[:60]}")

    def test_truths_and_lists_are_seen_by_questions_too(self):
        for call, args, _ in self.calls:
            value = args.get("value", {})
            for path, item in helper.nodes(value) if type(value) is not dict else ():
                if type(item) is tuple:
                    self.assertIs(call(**{**args, "value": self.listed(call, value, path)}), call is safe.is_silence_table and len(path) == 1)
                if type(item) is int:
                    self.assertIs(call(**{**args, "value": helper.put(value, path, bool(item))}), False, f"{call.__name__} {path}")

    def listed(self, call, value, path):
        """With a list in the place of a tuple."""
        item = value
        for at in path:
            item = item[at]
        return helper.put(value, path, list(item))

    def test_start_of_machine(self):
        """What stands behind a wrong value is not looked at; a date ahead of the first one."""
        with self.assertRaises(errors.BadOrder):
            sums.hours_of(WHEEL, "day", (2027, 1, 1), (2026, 12, 31))
        with self.assertRaises(errors.UnlikeTexts):
            rolling.rolling_web(SPLIT, TEXT[:4] + ((),) + SPLIT[5:], None, None, None, None)


class Results(test_wrong.Results):
    calls = [call for call in CALLS if call[0] not in MADE]

    def test_objects_are_equal_to_nothing_else(self):
        for value in helper.any_values() + [TEXT, WORLD, SMALL, unseen.Unseen, unseen.Unseen(**CHOICES), tables.Table]:
            self.assertFalse(GAME == value)
            self.assertTrue(GAME != value)
        for call in (iter, list):
            with self.assertRaises(TypeError):
                call(GAME)


if __name__ == "__main__":
    unittest.main()
