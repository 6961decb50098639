"""[70]: partings, and where rules lie."""
import unittest

from helper import HOUSE, Plain, put, random_text, seeded
from housekept import errors, panels, rules

ALWAYS = ("always",)
# Variables front, inner, smoke:hall, smoke:lab, mode; timer lamp; counter seen; buttons 0 to 5.
OWNERS = (0, 1, 0, 1, 1, 0, 1, 0, 0, 0, 0, 1, 1)
SAFES = ("shut", "free", "yes", "no", "night")
PARTING = ("parting", 2, OWNERS, 2, SAFES)
MUTE = (("button", 0), ("not", ALWAYS), ())


def text_with(*made):
    return ("text", HOUSE, (("mode", ("day", "night")),), (("lamp", 3),), (("seen", 2),), tuple(made))


def rule(when, condition=ALWAYS, *deeds):
    return (when, condition, deeds)


def slow_place(text, parting, number):
    """The panels at which a rule lies, word by word."""
    when, condition, deeds = text[5][number]
    plain = Plain(text)
    things = [("v", name) for name in plain.names] + [("t", name) for name in plain.timers]
    things += [("c", name) for name in plain.counters] + [("b", button) for button in range(6)]
    owner = dict(zip(things, parting[2]))

    def inside(one):
        return [one] if one[0] not in ("not", "both", "either") else [part for two in one[1:] for part in inside(two)]

    def hears(panel):
        if when[0] in ("tick", "becomes"):
            return True
        if when[0] == "button":
            return owner[("b", when[1])] == panel
        if when[0] == "ran":
            return owner[("t", when[1])] == panel
        names = ["smoke:" + area for area in text[1][1][1:]] if when[0] == "smoke" else list(plain.doors)
        if when[1] != "any":
            names = ["smoke:" + when[1] if when[0] == "smoke" else when[1]]
        return all(owner[("v", name)] == panel for name in names)

    letters = {"let": "v", "start": "t", "stop": "t", "more": "c", "less": "c"}
    must = [(letters[deed[0]], deed[1]) for deed in deeds if deed[0] != "say"]
    mute = not must
    must += [({"running": "t", "least": "c"}[one[0]], one[1]) for one in inside(condition) if one[0] in ("running", "least")]
    found = []
    for panel in range(parting[1]):
        alone = not mute or (when[0] != "tick" or panel == 0) and (when[0] != "becomes" or panel == owner[("v", when[1])])
        if hears(panel) and alone and all(owner[thing] == panel for thing in must):
            found.append(panel)
    return found


class Partings(unittest.TestCase):
    def test_right_and_wrong_partings(self):
        text = text_with(MUTE)
        for parting in (PARTING, put(PARTING, (1,), 3), put(put(PARTING, (1,), 3), (2, 0), 2), put(PARTING, (3,), 0),
                        put(PARTING, (3,), 3)):
            self.assertIs(panels.is_parting(text, parting), True)
        for path, new in [((0,), "part"), ((1,), 1), ((1,), 4), ((1,), True), ((2,), OWNERS[:-1]), ((2,), OWNERS + (0,)),
                          ((2, 0), 2), ((2, 0), -1), ((2, 12), True), ((3,), 4), ((3,), -1), ((3,), None), ((4,), SAFES[:-1]),
                          ((4,), SAFES + ("day",)), ((4, 0), "yes"), ((4, 4), "any"), ((4, 2), None)]:
            self.assertIs(panels.is_parting(text, put(PARTING, path, new)), False, (path, new))
        self.assertIs(panels.is_parting(text, PARTING + ((),)), False)
        self.assertIs(panels.is_parting(text, ("parting", 1, (0,) * 13, 2, SAFES)), False)
        self.assertIs(panels.is_parting(text, ("parting", 2, (0,) * 13, 2, SAFES)), True)

    def places(self, *made):
        return panels.places(text_with(*made), PARTING)

    def test_where_rules_lie(self):
        self.assertEqual(self.places(
            rule(("card", "front", "any", "any"), ("right",), ("let", "front", "free"), ("say", 1)),
            rule(("pass", "inner", 0), ("is", "mode", "day"), ("let", "inner", "shut")),
            rule(("smoke", "hall", "any"), ALWAYS, ("start", "lamp", 1)),
            rule(("smoke", "lab", "yes")),
            rule(("button", 4), ("least", "seen", 1), ("say", 2)),
            rule(("button", 3), ("running", "lamp")),
            rule(("ran", "lamp"), ALWAYS, ("let", "front", "shut")),
            rule(("tick",), ALWAYS, ("let", "inner", "shut")),
            rule(("becomes", "front", "free"), ALWAYS, ("more", "seen")),
            rule(("stuck", "inner"), ALWAYS, ("say", 3))), (0, 1, 0, 1, 1, 0, 0, 1, 1, 1))

    def test_words_alone(self):
        self.assertEqual(self.places(rule(("tick",), ALWAYS, ("say", 1)), rule(("tick",)), rule(("becomes", "mode", "any")),
                                     rule(("becomes", "front", "free"), ("is", "mode", "day"), ("say", 1))), (0, 0, 1, 0))

    def test_any(self):
        text = text_with(rule(("card", "any", "any", "any"), ALWAYS, ("say", 1)), rule(("smoke", "any", "yes")))
        one = put(put(PARTING, (2, 0), 1), (2, 2), 1)
        self.assertEqual(panels.places(text, one), (1, 1))
        for parting, number in ((PARTING, 0), (put(PARTING, (2, 0), 1), 1)):
            with self.assertRaises(errors.NoPlace) as caught:
                panels.places(text, parting)
            self.assertEqual(caught.exception.rule, number)

    def test_rules_that_lie_nowhere(self):
        good = rule(("tick",), ALWAYS, ("let", "front", "free"))
        for bad in (rule(("card", "front", 0, "guest"), ALWAYS, ("let", "inner", "free")),
                    rule(("tick",), ALWAYS, ("let", "inner", "free"), ("let", "front", "free")),
                    rule(("tick",), ("running", "lamp"), ("more", "seen")), rule(("button", 0), ("least", "seen", 1)),
                    rule(("tick",), ("least", "seen", 1), ("say", 1)), rule(("becomes", "mode", "day"), ("running", "lamp")),
                    rule(("ran", "lamp"), ALWAYS, ("more", "seen"))):
            text = text_with(good, bad, bad)
            for call in (panels.places, panels.lines, lambda one, two: panels.panel_text(one, two, 0)):
                with self.assertRaises(errors.NoPlace) as caught:
                    call(text, PARTING)
                self.assertEqual(caught.exception.rule, 1)
            with self.assertRaises(errors.BadPanel):
                panels.panel_text(text, PARTING, 2)

    def test_lines(self):
        text = text_with(
            rule(("tick",), ("both", ("is", "inner", "free"), ("not", ("is", "front", "shut"))), ("let", "front", "shut")),
            rule(("becomes", "smoke:lab", "any"), ("is", "mode", "day"), ("let", "front", "free")),
            rule(("becomes", "front", "free"), ("is", "inner", "shut"), ("more", "seen")))
        self.assertEqual(panels.places(text, PARTING), (0, 0, 1))
        self.assertEqual(panels.lines(text, PARTING), ((0, 1, (0,)), (1, 0, (1, 3, 4))))
        self.assertEqual(panels.lines(text_with(rule(("tick",), ("is", "front", "free"))), PARTING), ())

    def test_panel_text(self):
        made = (rule(("tick",), ALWAYS, ("let", "front", "shut")), rule(("tick",), ALWAYS, ("let", "mode", "day")),
                rule(("button", 0)))
        text = text_with(*made)
        self.assertEqual(panels.panel_text(text, PARTING, 0), text_with(made[0], made[2]))
        self.assertEqual(panels.panel_text(text, PARTING, 1), text_with(made[1]))
        three = put(PARTING, (1,), 3)
        self.assertEqual(panels.panel_text(text, three, 2), text_with(MUTE))
        self.assertIs(rules.is_text(panels.panel_text(text, three, 2)), True)
        for panel in (-1, 2, True, None):
            with self.assertRaises(errors.BadPanel):
                panels.panel_text(text, PARTING, panel)

    def test_against_a_plain_second_way(self):
        lying = nowhere = 0
        for seed in range(400):
            rand = seeded(seed)
            text = random_text(rand, many=3)
            names = rules.variables(text)
            many = rand.randint(2, 3)
            size = len(names) + len(text[3]) + len(text[4]) + 6
            owners = tuple(0 if rand.random() < 0.7 else rand.randrange(many) for _ in range(size))
            parting = ("parting", many, owners, rand.randint(0, 3), tuple(rand.choice(worths) for _, worths in names))
            self.assertIs(panels.is_parting(text, parting), True)
            found = [slow_place(text, parting, at) for at in range(len(text[5]))]
            self.assertTrue(all(len(lot) < 2 for lot in found))
            if [] in found:
                nowhere += 1
                with self.assertRaises(errors.NoPlace) as caught:
                    panels.lines(text, parting)
                self.assertEqual(caught.exception.rule, found.index([]))
                continue
            lying += 1
            self.assertEqual(panels.places(text, parting), tuple(lot[0] for lot in found))
            self.check_lines(text, parting, [lot[0] for lot in found], [name for name, _ in names])
        self.assertGreater(lying, 50)
        self.assertGreater(nowhere, 50)

    def check_lines(self, text, parting, found, names):
        read = {}
        for at, panel in enumerate(found):
            when, condition, _ = text[5][at]
            told = repr(condition)
            for place, name in enumerate(names):
                named = f"('is', '{name}'," in told or when[:2] == ("becomes", name)
                if named and parting[2][place] != panel:
                    read.setdefault((parting[2][place], panel), set()).add(place)
        self.assertEqual(panels.lines(text, parting), tuple((owner, reader, tuple(sorted(read[(owner, reader)])))
                                                            for owner, reader in sorted(read)))
        for panel in range(parting[1]):
            kept = tuple(text[5][at] for at, where in enumerate(found) if where == panel)
            self.assertEqual(panels.panel_text(text, parting, panel), text[:5] + (kept or (MUTE,),))


if __name__ == "__main__":
    unittest.main()
