"""Plain texts, and the companies that they let in."""
import unittest

import helper
from helper import HOUSE, PLAIN, SMALL, TEXT, put, random_building, seeded
from housekept import errors, households, machines, plaintexts, rights, rules, webs

WORLD = ("world", (), (), (), 0)


def least_breaking(text, kind, area, many):
    """The least households that break the promise that there are never so many of a kind in an area."""
    machine = machines.Machine(text, WORLD)
    promise = ("never", tuple(range(len(machine))), ((kind, area, many),))
    return [household for household, _ in households.households(text[1], webs.web_of(machine), promise)]


def freeing(door, condition, when=None):
    return (when or ("card", door, "any", "any"), condition, (("let", door, "free"),))


class PlainTexts(unittest.TestCase):
    def test_by_hand(self):
        self.assertEqual(plaintexts.plain_text(SMALL), PLAIN)
        text = plaintexts.plain_text(building=HOUSE)
        self.assertEqual(text[:5], ("text", HOUSE, (), (), ()))
        self.assertEqual(text[5], (freeing("front", ("right",)), (("pass", "front", "any"), ("always",), (("let", "front", "shut"),)),
                                   (("tick",), ("always",), (("let", "front", "shut"),)), freeing("inner", ("right",)),
                                   (("pass", "inner", "any"), ("always",), (("let", "inner", "shut"),)),
                                   (("tick",), ("always",), (("let", "inner", "shut"),))))
        self.assertIs(plaintexts.is_strict(text), True)

    def test_heart(self):
        """The least households are the companies of helpers, and no others."""
        rand = seeded(1)
        seen = {0: 0, 1: 0, "more": 0}
        for _ in range(40):
            building = random_building(rand, rand.randint(2, 3), rand.randint(1, 3), rand.randint(1, 2))
            text = plaintexts.plain_text(building)
            self.assertIs(rules.is_text(text), True)
            kind, area, many = rand.choice(building[3]), rand.choice(building[1][1:]), rand.randint(1, 3)
            lots = rights.helpers(building, kind, area)
            want = [tuple(many if one == kind else 1 if one in lot else 0 for one in building[3]) for lot in lots]
            self.assertEqual(sorted(least_breaking(text, kind, area, many)), sorted(want))
            seen[len(want) if len(want) in seen else "more"] += 1
        self.assertGreater(min(seen[0], seen[1]), 5)

    def test_strict_texts_let_no_more_in(self):
        rand = seeded(2)
        above = 0
        for _ in range(40):
            building = random_building(rand, 3, 2, 2)
            made = []
            for door in building[2]:
                for _ in range(rand.randint(0, 2)):
                    when = ("card", door[0], rand.choice([0, 1, "any"]), rand.choice(list(building[3]) + ["any"]))
                    made.append(freeing(door[0], rand.choice([("right",), ("both", ("right",), ("is", door[0], "shut"))]), when))
                made.append((("pass", door[0], "any"), ("always",), (("let", door[0], "shut"),)))
            text = ("text", building, (), (), (), tuple(made))
            self.assertIs(plaintexts.is_strict(text), True)
            for kind in building[3]:
                lots = rights.helpers(building, kind, building[1][1])
                for household in least_breaking(text, kind, building[1][1], 2):
                    self.assertTrue(any(all(household[building[3].index(one)] >= (2 if one == kind else 1) for one in lot) for lot in lots))
                    above += 1
        self.assertGreater(above, 5)

    def test_is_strict(self):
        right = ("right",)
        base = PLAIN[:5]
        day = ("is", "door", "shut")
        strict = [freeing("door", right), freeing("door", ("both", right, day)), freeing("door", ("both", right, ("not", day))),
                  freeing("door", right, ("card", "door", 0, "guest")), (("tick",), ("always",), (("let", "door", "shut"),)),
                  (("button", 1), ("always",), ()), (("tick",), ("always",), (("say", 3),))]
        other = [freeing("door", ("both", day, right)), freeing("door", ("always",)), freeing("door", ("either", right, right)),
                 freeing("door", ("not", ("not", right))), freeing("door", right, ("card", "any", "any", "any")),
                 freeing("door", right, ("tick",)), freeing("door", right, ("pass", "door", 0)),
                 freeing("door", ("both", ("both", right, day), day)), freeing("door", right, ("stuck", "door"))]
        for rule in strict:
            self.assertIs(plaintexts.is_strict(base + ((rule,),)), True)
        for rule in other:
            self.assertIs(plaintexts.is_strict(base + ((rule,),)), False)
            self.assertIs(plaintexts.is_strict(base + (tuple(strict) + (rule,),)), False)
        # The card of another door; a variable of its own that is let be "free".
        wrong = ("text", HOUSE, (("lock", ("shut", "free")),), (), (), (freeing("inner", right, ("card", "front", 0, "guest")),))
        self.assertIs(plaintexts.is_strict(wrong), False)
        self.assertIs(plaintexts.is_strict(put(wrong, (5, 0), (("tick",), ("always",), (("let", "lock", "free"),)))), True)
        both = (("card", "front", 0, "guest"), right, (("let", "front", "free"), ("let", "inner", "free")))
        self.assertIs(plaintexts.is_strict(put(wrong, (5, 0), both)), False)
        self.assertIs(plaintexts.is_strict(TEXT), False)
        self.assertIs(plaintexts.is_strict(text=PLAIN), True)

    def test_wrong(self):
        for value in helper.any_values():
            with self.assertRaises(errors.BadBuilding):
                plaintexts.plain_text(value)
            with self.assertRaises(errors.BadText) as caught:
                plaintexts.is_strict(value)
            self.assertEqual(caught.exception.place, rules.fault(value))

    def test_largest(self):
        areas = ("out", "a", "b", "c", "d", "e")
        doors = tuple(("d" + "abcdef"[at], areas[at], areas[(at + 1) % 6], "leaf") for at in range(6))
        tower = ("building", areas, doors, ("x", "y", "z"), tuple((kind, door[0], side) for kind in "xyz" for door in doors for side in (0, 1)))
        text = plaintexts.plain_text(tower)
        self.assertEqual(len(text[5]), 18)
        self.assertIs(plaintexts.is_strict(text), True)
        self.assertEqual(least_breaking(text, "x", "c", 1), [(1, 0, 0)])


if __name__ == "__main__":
    unittest.main()
