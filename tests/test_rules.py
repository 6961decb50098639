"""[20] to [25]: texts, signals, standings, and where a value is no text."""
import unittest

from helper import BEGIN, HOUSE, PLAIN, RINGS, TEXT, any_values, put, random_standing, random_text, seeded
from housekept import errors, rules

ALWAYS = ("always",)


def with_rule(when=("tick",), condition=ALWAYS, deeds=(), text=TEXT):
    return text[:5] + (((("tick",), ALWAYS, ()), (when, condition, deeds)),)


def nested(deep):
    """A condition nested so deep."""
    return ALWAYS if deep == 1 else ("not", nested(deep - 1))


class Faults(unittest.TestCase):
    def check(self, value, place):
        self.assertEqual(rules.fault(value), place)
        self.assertIs(rules.is_text(value), place is None)
        if place is not None:
            with self.assertRaises(errors.BadText) as caught:
                rules.variables(value)
            self.assertEqual(caught.exception.place, place)

    def test_texts(self):
        for text in (TEXT, PLAIN, RINGS):
            self.check(text, None)
        for seed in range(50):
            self.check(random_text(seeded(seed)), None)

    def test_form(self):
        for value in (None, (), TEXT[:5], TEXT + ((),), list(TEXT), ("txt",) + TEXT[1:], "text", {"text": TEXT}):
            self.check(value, ())
        for value in any_values():
            if not (isinstance(value, tuple) and value and value[0] == "text" and len(value) == 6):
                self.check(value, ())

    def test_building(self):
        self.check(put(TEXT, (1,), None), (1,))
        self.check(put(TEXT, (1, 1, 0), "any"), (1,))
        self.check(("text", None, None, None, None, None), (1,))
        self.check(("text", list(HOUSE), (), (), (), ()), (1,))

    def test_variables(self):
        six = tuple((name, ("a", "b")) for name in "uvwxyz")
        self.check(put(TEXT, (2,), six[:5]), (5, 5, 1))
        self.check(put(PLAIN, (2,), six[:5]), None)
        self.check(put(PLAIN, (2,), six), (2,))
        self.check(put(PLAIN, (2,), list(six[:2])), (2,))
        self.check(put(PLAIN, (2,), None), (2,))
        right = ("u", ("a", "b"))
        for wrong in (("u",), ("any", ("a", "b")), ("door", ("a", "b")), ("u", ("a",)), ("u", ("a", "b", "c", "d", "e")),
                      ("u", ("a", "a")), ("u", ("a", "any")), ("u", ["a", "b"]), ["u", ("a", "b")], None, ("U", ("a", "b")),
                      ("smoke:room", ("a", "b"))):
            self.check(put(PLAIN, (2,), (wrong,)), (2, 0))
            self.check(put(PLAIN, (2,), (("v", ("a", "b", "c", "d")), wrong)), (2, 1))
        self.check(put(PLAIN, (2,), (right, ("v", ("a", "b")), right)), (2, 2))
        self.check(put(PLAIN, (2,), (("room", ("guest", "door")), ("guest", ("shut", "free")))), None)

    def test_timers_and_counters(self):
        self.check(put(PLAIN, (3,), (("a", 1), ("b", 12), ("c", 5))), None)
        self.check(put(PLAIN, (3,), (("a", 1), ("b", 1), ("c", 1), ("d", 1))), (3,))
        for wrong in (("a", 0), ("a", 13), ("a", True), ("a",), ("door", 1), ["a", 1], ("any", 1), ("a", "1"), 5):
            self.check(put(PLAIN, (3,), (wrong,)), (3, 0))
        self.check(put(PLAIN, (3,), (("a", 1), ("a", 2))), (3, 1))
        self.check(put(put(PLAIN, (2,), (("a", ("x", "y")),)), (3,), (("a", 2),)), (3, 0))
        self.check(put(PLAIN, (4,), (("a", 1), ("b", 5))), None)
        self.check(put(PLAIN, (4,), (("a", 1), ("b", 1), ("c", 1))), (4,))
        for wrong in (("a", 0), ("a", 6), ("a", True), ("a",), ("door", 1), None):
            self.check(put(PLAIN, (4,), (wrong,)), (4, 0))
        self.check(put(put(PLAIN, (3,), (("a", 2),)), (4,), (("b", 1), ("a", 2))), (4, 1))

    def test_rules(self):
        rule = (("tick",), ALWAYS, ())
        self.check(put(PLAIN, (5,), (rule,) * 30), None)
        self.check(put(PLAIN, (5,), (rule,) * 31), (5,))
        self.check(put(PLAIN, (5,), ()), (5,))
        self.check(put(PLAIN, (5,), [rule]), (5,))
        for wrong in (rule[:2], rule + ((),), list(rule), None, "rule"):
            self.check(put(PLAIN, (5,), (rule, wrong)), (5, 1))
        self.check(with_rule(None, None, None), (5, 1, 0))
        self.check(with_rule(("tick",), None, None), (5, 1, 1))
        self.check(with_rule(("tick",), ALWAYS, None), (5, 1, 2))

    def test_first_wrong_place_comes_first(self):
        wrong = put(put(TEXT, (2, 0, 0), "any"), (3,), None)
        self.check(wrong, (2, 0))
        self.check(put(wrong, (1, 3), ()), (1,))
        self.check(put(put(TEXT, (5, 2, 2), None), (5, 3), None), (5, 2, 2))
        self.check(put(put(TEXT, (5, 2, 2), None), (5, 1, 1), None), (5, 1, 1))
        self.check(put(put(TEXT, (4, 0, 1), 0), (5,), None), (4, 0))

    def test_whens(self):
        for when in (("card", "front", 0, "guest"), ("card", "any", "any", "any"), ("pass", "any", 1),
                     ("pass", "inner", "any"), ("smoke", "hall", "yes"), ("smoke", "any", "any"), ("button", 0),
                     ("button", 5), ("stuck", "any"), ("mended", "front"), ("tick",), ("becomes", "mode", "any"),
                     ("becomes", "smoke:lab", "no"), ("becomes", "front", "free"), ("ran", "lamp")):
            self.check(with_rule(when), None)
        for when in (("card", "hall", 0, "guest"), ("card", "front", 2, "guest"), ("card", "front", True, "guest"),
                     ("card", "front", 0, "chief"), ("card", "front", 0), ("pass", "front"), ("smoke", "out", "yes"),
                     ("smoke", "hall", "maybe"), ("button", 6), ("button", -1), ("button", "any"), ("button", True),
                     ("stuck", "hall"), ("mended",), ("tick", "any"), ("becomes", "any", "any"), ("becomes", "mode", "shut"),
                     ("becomes", "smoke:out", "no"), ("becomes", "lamp", 1), ("ran", "any"), ("ran", "seen"), ("go",), (),
                     ["tick"], (["tick"],), ("becomes", ["mode"], "day"), ("card", {}, [], ())):
            self.check(with_rule(when), (5, 1, 0))

    def test_conditions(self):
        for condition in (ALWAYS, ("right",), ("is", "mode", "night"), ("is", "smoke:hall", "yes"), ("is", "front", "shut"),
                          ("least", "seen", 1), ("least", "seen", 2), ("running", "lamp"), nested(6),
                          ("both", nested(5), ("either", nested(4), nested(4)))):
            self.check(with_rule(("tick",), condition), None)
        for condition in ((), ("always", 1), ("right", 1), ("is", "mode", "shut"), ("is", "mode"), ("is", "mode", "any"),
                          ("least", "seen", 0), ("least", "seen", 3), ("least", "seen", True), ("least", "lamp", 1),
                          ("running", "seen"), ("running",), ("not",), ("not", ALWAYS, ALWAYS), ("both", ALWAYS),
                          ("either", ALWAYS, ALWAYS, ALWAYS), nested(7), ("both", nested(6), ALWAYS),
                          ("both", ALWAYS, ("either", ALWAYS, nested(5))), ("stands", "front", "free"), ["always"],
                          ("not", ["always"]), ("is", ["mode"], "day"), "always", ("never",)):
            self.check(with_rule(("tick",), condition), (5, 1, 1))

    def test_deeds(self):
        for deeds in ((), (("let", "front", "free"), ("let", "mode", "day"), ("start", "lamp", 3), ("more", "seen")),
                      (("say", 0), ("say", 9), ("stop", "lamp"), ("less", "seen")), (("start", "lamp", 1),)):
            self.check(with_rule(("tick",), ALWAYS, deeds), None)
        say = tuple(("say", at) for at in range(5))
        for deeds in (say, (("let", "smoke:hall", "yes"),), (("let", "mode", "shut"),), (("let", "mode"),), ["say"],
                      [("say", 1)], (["say", 1],), (("say", 10),), (("say", -1),), (("say", True),), (("say", 1), ("say", 1)),
                      (("start", "lamp", 0),), (("start", "lamp", 4),), (("start", "seen", 1),), (("stop", "seen"),),
                      (("more", "lamp"),), (("less", "mode"),), (("more", "seen"), ("less", "seen")),
                      (("let", "mode", "day"), ("let", "mode", "night")), (("start", "lamp", 1), ("stop", "lamp")),
                      (("more", "seen", 1),), (("let", "mode", "any"),), ((),), (None,)):
            self.check(with_rule(("tick",), ALWAYS, deeds), (5, 1, 2))


class Standings(unittest.TestCase):
    def test_variables(self):
        self.assertEqual(rules.variables(TEXT), [("front", ("shut", "free")), ("inner", ("shut", "free")),
                                                 ("smoke:hall", ("no", "yes")), ("smoke:lab", ("no", "yes")),
                                                 ("mode", ("day", "night"))])

    def test_begin(self):
        self.assertEqual(rules.begin(TEXT), BEGIN)
        self.assertEqual(rules.begin(PLAIN), (("shut", "no"), (), (), (None,)))

    def test_signals_in_order(self):
        self.assertEqual(rules.signals(TEXT), [
            ("card", "front", 0, "guest"), ("card", "front", 0, "staff"), ("card", "front", 1, "guest"),
            ("card", "front", 1, "staff"), ("card", "inner", 0, "guest"), ("card", "inner", 0, "staff"),
            ("card", "inner", 1, "guest"), ("card", "inner", 1, "staff"), ("pass", "front", 0), ("pass", "front", 1),
            ("pass", "inner", 0), ("pass", "inner", 1), ("smoke", "hall", "yes"), ("smoke", "hall", "no"),
            ("smoke", "lab", "yes"), ("smoke", "lab", "no"), ("button", 0), ("button", 1), ("button", 2), ("button", 3),
            ("button", 4), ("button", 5), ("stuck", "front"), ("mended", "front"), ("stuck", "inner"),
            ("mended", "inner"), ("tick",)])

    def test_is_signal(self):
        for signal in rules.signals(TEXT):
            self.assertIs(rules.is_signal(TEXT, signal), True)
        for value in (("card", "any", 0, "guest"), ("card", "front", False, "guest"), ("button", True), ("button", 6),
                      ("smoke", "out", "yes"), ("becomes", "mode", "day"), ("ran", "lamp"), ["tick"], ("tick", 0), "tick"):
            self.assertIs(rules.is_signal(TEXT, value), False)

    def test_is_standing(self):
        for path, new in [((1, 0), 1), ((1, 0), 3), ((2, 0), 2), ((3, 0), "shut"), ((3, 1), "free"), ((0, 2), "yes")]:
            self.assertIs(rules.is_standing(TEXT, put(BEGIN, path, new)), True)
        for path, new in [((1, 0), 0), ((1, 0), 4), ((1, 0), True), ((2, 0), 3), ((2, 0), -1), ((2, 0), False),
                          ((2, 0), None), ((3, 0), "stuck"), ((3, 0), False), ((0, 0), "yes"), ((0, 4), "any"),
                          ((0, 4), None), ((0,), BEGIN[0][:4]), ((1,), ()), ((2,), (0, 0)), ((3,), (None,))]:
            self.assertIs(rules.is_standing(TEXT, put(BEGIN, path, new)), False)
        for seed in range(30):
            text = random_text(seeded(seed))
            self.assertIs(rules.is_standing(text, random_standing(seeded(seed), text)), True)

    def test_stands_and_value_of(self):
        stuck = (("free", "shut", "no", "yes", "night"), (2,), (1,), ("shut", None))
        self.assertEqual(rules.stands(TEXT, stuck, "front"), "shut")
        self.assertEqual(rules.stands(TEXT, stuck, "inner"), "shut")
        self.assertEqual(rules.stands(TEXT, put(stuck, (3, 1), "free"), "inner"), "free")
        self.assertEqual(rules.value_of(TEXT, stuck, "front"), "free")
        self.assertEqual(rules.value_of(TEXT, stuck, "smoke:lab"), "yes")
        self.assertEqual(rules.value_of(TEXT, stuck, "mode"), "night")
        for name in ("lamp", "seen", "smoke:out", "hall", "any"):
            with self.assertRaises(errors.BadName):
                rules.value_of(TEXT, stuck, name)


if __name__ == "__main__":
    unittest.main()
