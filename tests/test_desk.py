"""The desk: lines of each form, against a bench that is asked straight."""
import unittest

import helper
from helper import HOUSE, PLAIN, RINGS, TEXT, counting, random_building, random_text, seeded
from housekept import bench, desk, errors, rules, texts
from test_bench import random_deed

NEW = TEXT[:2] + ((("mode", ("night", "day")),), (("lamp", 2),), (), TEXT[5][:2])
WORLD = ("world", HOUSE[1][1:], (0, 1, 2, 3, 4, 5), (), 0)


def read(text=TEXT, household="2 1"):
    one = desk.Desk()
    assert one.say(f"read {household}\n" + texts.text_of(text)) == "ok"
    return one


def line_of(deed):
    if deed[0] == "exchange":
        return "exchange\n" + texts.text_of(deed[1])
    return " ".join(str(part) for part in (deed[1] if deed[0] == "signal" else deed))


def condition_words(condition):
    return " ".join(condition_words(part) if type(part) is tuple else str(part) for part in condition)


def answer_of(one, deed):
    """What a desk must answer when the deed is done at a bench."""
    try:
        account = getattr(one, deed[0])(*deed[1:])
    except errors.KeptError as error:
        return "error " + type(error).__name__.lower()
    if account is None:
        return "ok"
    return " ".join([str(word) for word in account[2]] + ["endless"] * account[4]) or "-"


class Lines(unittest.TestCase):
    def check_questions(self, one, other):
        """A desk and a bench tell the same."""
        building = other.text[1]
        doors = ", ".join(f"{row[0]} {how}" for row, how in zip(building[2], other.doors()))
        self.assertEqual(one.say("doors"), doors)
        crowd = [f"{kind} {area} {many}" for kind, row in zip(building[3], other.crowd()) for area, many in zip(building[1], row) if many]
        self.assertEqual(one.say("crowd"), ", ".join(crowd) or "-")
        self.assertEqual(one.say("kept"), ", ".join(other.kept) or "-")
        self.assertEqual(one.say("text"), texts.text_of(other.text))
        for name, _ in rules.variables(other.text):
            self.assertEqual(one.say("value " + name), rules.value_of(other.text, other.now, name))

    def test_against_a_bench(self):
        rand = seeded(1)
        seen = {}
        for _ in range(40):
            text = random_text(rand, random_building(rand, 3, 2, 2), 14)
            text = text[:5] + (((("card", "any", "any", "any"), ("always",), (("say", 1),)),) + text[5],)
            one, other = read(text, "2 0"), bench.Bench(text, [2, 0])
            for _ in range(20):
                deed = random_deed(rand, text) if rand.random() < 0.85 else ("undo",)
                want = answer_of(other, deed)
                self.assertEqual(one.say(line_of(deed)), want)
                seen[want.split(" ")[0]] = seen.get(want.split(" ")[0], 0) + 1
                self.check_questions(one, other)
        self.assertGreater(min(seen[word] for word in ("ok", "-", "error", "1")), 2)

    def test_guard_against_a_bench(self):
        rand = seeded(2)
        sizes = set()
        for _ in range(40):
            text = random_text(rand, random_building(rand, 2, 2, 1), 6, 2)
            one, other = read(text, "1"), bench.Bench(text, [1])
            plain = helper.Plain(text)
            for _ in range(4):
                condition = helper.random_condition(rand, plain.names, text[3], text[4], 4)
                if rand.random() < 0.3:
                    condition = ("both", condition, ("stands", text[1][2][0][0], "free"))
                promise = ("never", condition, ((rand.choice(["any", "guest"]), rand.choice(text[1][1]), rand.randint(1, 2)),))
                world = ("world", text[1][1][1:], (0, 1, 2, 3, 4, 5), (), 0)
                try:
                    want = ", ".join(line_of(deed) for deed in other.guarded(promise, world)) or "-"
                except errors.KeptError as error:
                    want = "error " + type(error).__name__.lower()
                kind, area, many = promise[2][0]
                self.assertEqual(one.say(f"guard {area} {kind} {many} {condition_words(condition)}"), want)
                sizes.add(want[:5])
        self.assertTrue({"-", "error"} <= sizes and len(sizes) > 2, sizes)

    def test_by_hand(self):
        one = read()
        for line, answer in [
                ("doors", "front shut, inner shut"), ("crowd", "guest out 2, staff out 1"), ("kept", "-"), ("value mode", "day"),
                ("value smoke:lab", "no"), ("show guest front 0", "1"), ("go guest front 0", "-"), ("crowd", "guest out 1, guest hall 1, staff out 1"),
                ("keep b", "ok"), ("keep a", "ok"), ("kept", "a, b"), ("button 1", "-"), ("value mode", "night"), ("button 1", "3"),
                ("smoke lab yes", "9"), ("doors", "front free, inner free"), ("stuck front", "-"), ("mended inner", "-"), ("tick", "-"),
                ("tick", "-"), ("tick", "2"), ("doors", "front free, inner free"), ("back a", "ok"), ("doors", "front shut, inner shut"),
                ("undo", "ok"), ("doors", "front free, inner free"), ("value inner", "free"), ("mended front", "-"), ("doors", "front shut, inner free")]:
            self.assertEqual(one.say(line), answer, line)
        endless = read(RINGS, "0 0")
        self.assertEqual([endless.say(line) for line in ("button 3", "button 2", "crowd", "tick")], ["endless", "4", "-", "-"])

    def test_words_in_rounds(self):
        """Words are told round by round, also those that come twice."""
        text = TEXT[:5] + (((("button", 0), ("always",), (("let", "front", "free"), ("say", 7), ("say", 3))),
                            (("becomes", "front", "free"), ("always",), (("say", 3),))),)
        self.assertEqual(read(text).say("button 0"), "3 7 3")

    def test_guard(self):
        one = read(PLAIN, "1")
        self.assertEqual(one.say("guard room guest 1 always"), "show guest door 0, smoke room yes, smoke room no, button 0, button 1, "
                         "button 2, button 3, button 4, button 5, tick")
        self.assertEqual(one.say("guard room guest 1 stands door free"), one.say("guard room any 1 is door free"))
        # Whoever has come in by the door finds it shut: no leaf stays free behind a pass.
        self.assertEqual(one.say("guard room any 2 always"), "-")
        self.assertEqual(one.say("guard out any 1 not not not not not always"), "-")
        for line, answer in [("guard room guest 1 not not not not not not always", "what"), ("guard room guest 1", "what"),
                             ("guard room guest 01 always", "what"), ("guard room guest x always", "what"), ("guard room guest 1 always always", "what"),
                             ("guard room guest 1 is door", "what"), ("guard room guest 1 maybe", "what"), ("guard room guest 1 both always", "what"),
                             ("guard room guest 1 least k 01", "what"), ("guard", "what"), ("guard room guest 1 ALWAYS", "what"),
                             ("guard room guest 0 always", "error badpromise"), ("guard room guest 4 always", "error badpromise"),
                             ("guard attic guest 1 always", "error badpromise"), ("guard room chief 1 always", "error badpromise"),
                             ("guard room guest 1 right", "error badpromise"), ("guard room guest 1 is doors free", "error badpromise"),
                             ("guard room guest 1 least k 1", "error badpromise"), ("guard room guest 1 not right", "error badpromise"),
                             ("guard any any 1 always", "error badpromise"), ("guard room guest " + "9" * 30 + " always", "error badpromise"),
                             ("guard room guest " + "9" * 31 + " always", "what"), ("guard room guest 1 running t", "error badpromise")]:
            self.assertEqual(one.say(line), answer, line)
        self.assertEqual(bench.Bench(PLAIN, [1]).guarded(("never", ("always",), (("any", "room", 2),)), ("world", ("room",), (0, 1, 2, 3, 4, 5), (), 0)), [])
        self.assertEqual(WORLD[1], ("hall", "lab"))

    def test_errors(self):
        one = read()
        whole = texts.text_of(TEXT)
        for line, answer in [
                ("show chief front 0", "error badkind"), ("show guest attic 0", "error baddoor"), ("show guest front 2", "error badside"),
                ("show guest front " + "1" + "0" * 29, "error badside"), ("show guest front 1", "error notthere"), ("go guest front 0", "error notfree"),
                ("go guest inner 0", "error notthere"), ("smoke out yes", "error badsignal"), ("smoke lab maybe", "error badsignal"),
                ("button 6", "error badsignal"), ("button " + "9" * 30, "error badsignal"), ("stuck attic", "error badsignal"), ("mended any", "error badsignal"),
                ("keep Any", "error badname"), ("keep any", "error badname"), ("back a", "error notkept"), ("back A-b", "error notkept"), ("undo", "error nothingdone"),
                ("value lamp", "error badname"), ("value smoke:out", "error badname"), ("exchange\n" + texts.text_of(PLAIN), "error unlikebuildings"),
                ("exchange\n", "error badword 1 1"), ("exchange\n" + whole + "\n", "error badword {} 1".format(whole.count("\n") + 2)),
                ("exchange\narea out\narea out", "error badword 2 2"), ("read 1 1\narea", "error badword 1 2"), ("read 1\n" + whole, "error badhousehold"),
                ("read 20 1\n" + whole, "error badhousehold"), ("read 1 1 1\n" + whole, "error badhousehold"), ("read 1\n" + whole[:-1], "error badword {} 3".format(whole.count("\n") + 1))]:
            self.assertEqual(one.say(line), answer, line)
            self.assertEqual((one.say("crowd"), one.say("text")), ("guest out 2, staff out 1", whole))
        self.assertEqual(one.say("undo"), "error nothingdone")
        long = read(counting("b", 1022), "1")
        self.assertEqual(long.say("button 0"), "error toolong")
        self.assertEqual(long.say("guard room guest 1 always"), "error toolong")
        many = read(helper.four_thousand(True), "1")
        self.assertEqual(many.say("guard room guest 1 always"), "error toomany")

    def test_what_has_no_form(self):
        whole = texts.text_of(TEXT)
        lines = ["", " ", "what", "doors ", " doors", "doors  ", "doors x", "Doors", "doors\n", "tick\n", "tick 1", "undo x", "keep", "keep a b", "keep a\n",
                 "keep  a", "show guest front", "show guest front 00", "show guest front 01", "show guest front -1", "show guest front x", "show guest front 0 0",
                 "show guest front +0", "show guest front \u0661", "show  guest front 0", "go guest front 0 ", "button", "button x", "button 01", "button 1 1", "button " + "9" * 31, "smoke lab",
                 "smoke lab yes no", "stuck", "mended a b", "value", "value a b", "kept x", "text x", "text\n", "crowd x", "read", "read 1", "read 1 1",
                 "read\n" + whole, "read x\n" + whole, "read 1 x\n" + whole, "read 1 01\n" + whole, "read 1 1 \n" + whole, "read  1 1\n" + whole,
                 "read " + "1" * 31 + "\n" + whole, "exchange", "exchange x", "exchange x\n" + whole, "exchange \n" + whole, "\n" + whole, "\n", "tick\r", "tick\ttick",
                 "card front 0 guest", "pass front 0", "signal tick", "becomes mode day"]
        one, empty = read(), desk.Desk()
        for line in lines + helper.any_values() + [b"tick", ["tick"], ("tick",)]:
            if type(line) is str and line in ("\n" + whole,):
                pass
            self.assertEqual(one.say(line), "what", line)
            self.assertEqual(empty.say(line), "what", line)
        self.assertEqual(one.say("crowd"), "guest out 2, staff out 1")

    def test_empty(self):
        one = desk.Desk()
        for line in ["doors", "crowd", "kept", "text", "value x", "value \u00e9", "tick", "undo", "keep any", "back x", "button 77", "smoke a b", "stuck a", "mended a",
                     "show a b 7", "go a b 0", "guard a b 0 always", "guard a b 7 is x y", "guard a b 7 right", "exchange\n", "exchange\nno text"]:
            self.assertEqual(one.say(line), "empty", line)
        self.assertEqual(one.say("read 0\nno"), "error badword 1 1")
        self.assertEqual(one.say("read 0\n" + texts.text_of(TEXT)), "error badhousehold")
        self.assertEqual(one.say("doors"), "empty")
        self.assertEqual(one.say("read 0\n" + texts.text_of(PLAIN)), "ok")
        self.assertEqual(one.say("doors"), "door shut")

    def test_read_again(self):
        one = read()
        one.say("keep a")
        one.say("tick")
        self.assertEqual(one.say("read 3\n" + texts.text_of(PLAIN)), "ok")
        self.assertEqual([one.say(line) for line in ("kept", "crowd", "undo")], ["-", "guest out 3", "error nothingdone"])
        self.assertEqual(one.say("read 1 1\n" + texts.text_of(TEXT)), "ok")
        self.assertEqual(one.say("exchange\n" + texts.text_of(NEW)), "ok")
        self.assertEqual((one.say("text"), one.say("value mode")), (texts.text_of(NEW), "day"))
        self.assertEqual(one.say("undo"), "ok")
        self.assertEqual(one.say("text"), texts.text_of(TEXT))

    def test_objects(self):
        one = desk.Desk()
        for value in helper.any_values() + [desk.Desk()]:
            self.assertFalse(one == value)
        for call in (iter, list):
            with self.assertRaises(TypeError):
                call(one)
        self.assertEqual(one.say(line="tick"), "empty")

    def test_long_lines(self):
        one = read(PLAIN, "1")
        self.assertEqual(one.say("keep " + "a" * 19990), "error badname")
        self.assertEqual(one.say("value " + "x y " * 4000), "what")
        self.assertEqual(one.say("guard room guest 1 " + "not " * 4000 + "always"), "what")
        self.assertEqual(one.say("guard room guest 1 " + "both " * 4000), "what")


if __name__ == "__main__":
    unittest.main()
