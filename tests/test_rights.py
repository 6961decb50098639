"""[12]: companies."""
import itertools
import unittest

from helper import HOUSE, random_building, seeded
from housekept import errors, rights

# x alone comes to a; with y to b; y or z let one into c; nobody comes back out of c.
CASTLE = ("building", ("out", "a", "b", "c"),
          (("p", "out", "a", "leaf"), ("q", "b", "a", "leaf"), ("r", "a", "c", "gate")),
          ("x", "y", "z"),
          (("x", "p", 0), ("x", "p", 1), ("y", "q", 1), ("y", "r", 0), ("z", "p", 1), ("z", "r", 0)))


def slow_reach(building, company, area):
    reached = {area}
    for _ in building[1]:
        for kind, name, side in building[4]:
            door = [row for row in building[2] if row[0] == name][0]
            if kind in company and door[1 + side] in reached:
                reached.add(door[2 - side])
    return tuple(one for one in building[1] if one in reached)


class Rights(unittest.TestCase):
    def test_company_reach(self):
        self.assertEqual(rights.company_reach(CASTLE, [], "a"), ("a",))
        self.assertEqual(rights.company_reach(CASTLE, ["x"], "out"), ("out", "a"))
        self.assertEqual(rights.company_reach(CASTLE, ["y", "x"], "out"), ("out", "a", "b", "c"))
        self.assertEqual(rights.company_reach(CASTLE, ["y"], "a"), ("a", "b", "c"))
        self.assertEqual(rights.company_reach(CASTLE, ["x", "y", "z"], "c"), ("c",))
        self.assertEqual(rights.company_reach(HOUSE, ("staff",), "lab"), ("hall", "lab"))

    def test_helpers(self):
        self.assertEqual(rights.helpers(CASTLE, "x", "a"), [("x",)])
        self.assertEqual(rights.helpers(CASTLE, "x", "c"), [("x", "y"), ("x", "z")])
        self.assertEqual(rights.helpers(CASTLE, "z", "b"), [("x", "y", "z")])
        self.assertEqual(rights.helpers(CASTLE, "y", "a"), [("x", "y")])
        self.assertEqual(rights.helpers(CASTLE, "z", "out"), [("z",)])
        self.assertEqual(rights.helpers(HOUSE, "guest", "lab"), [("guest", "staff")])
        nobody = CASTLE[:4] + ((),)
        self.assertEqual(rights.helpers(nobody, "x", "a"), [])

    def test_stranded(self):
        self.assertEqual(rights.stranded(CASTLE, ["x"]), [])
        self.assertEqual(rights.stranded(CASTLE, ["z", "y", "x"]),
                         [("x", "b"), ("x", "c"), ("y", "a"), ("y", "b"), ("y", "c"), ("z", "b"), ("z", "c")])
        self.assertEqual(rights.stranded(CASTLE, []), [])
        self.assertEqual(rights.stranded(HOUSE, ["guest"]), [("guest", "hall")])

    def test_wrong_companies(self):
        for company in (["x", "x"], ["w"], "x", {"x": 1}, [["x"]], ["any"]):
            with self.assertRaises(errors.BadCompany):
                rights.stranded(CASTLE, company)

    def test_against_a_plain_search(self):
        for seed in range(100):
            rand = seeded(seed)
            building = random_building(rand, rand.randint(2, 5), rand.randint(1, 6), rand.randint(1, 3))
            kinds, areas = building[3], building[1]
            lots = [lot for many in range(len(kinds) + 1) for lot in itertools.combinations(kinds, many)]
            for lot in lots:
                for area in areas:
                    self.assertEqual(rights.company_reach(building, list(lot), area), slow_reach(building, lot, area))
                met = slow_reach(building, lot, areas[0])
                lost = [(kind, area) for kind in lot for area in areas
                        if area in met and areas[0] not in slow_reach(building, (kind,), area)]
                self.assertEqual(rights.stranded(building, lot[::-1]), lost)
            for kind, area in itertools.product(kinds, areas):
                coming = [lot for lot in lots if kind in lot and area in slow_reach(building, lot, areas[0])]
                least = [lot for lot in coming if not any(set(one) < set(lot) for one in coming)]
                self.assertEqual(rights.helpers(building, kind, area), least)


if __name__ == "__main__":
    unittest.main()
