"""[10]: names and buildings."""
import unittest

from helper import HOUSE, put
from housekept import buildings, errors

LETTERS = "abcdef"
AREAS = tuple("area" + letter for letter in LETTERS)
DOORS = tuple((letter, AREAS[at], AREAS[(at + 1) % 6], "leaf") for at, letter in enumerate(LETTERS))
RIGHTS = tuple((kind, letter, side) for kind in ("x", "y", "z") for letter in LETTERS for side in (0, 1))
GREATEST = ("building", AREAS, DOORS, ("x", "y", "z"), RIGHTS)


class Buildings(unittest.TestCase):
    def test_names(self):
        for name in ("a", "z", "abcdefgh", "anya", "an"):
            self.assertIs(buildings.is_name(name), True)
        for name in ("", "any", "abcdefghi", "A", "a1", "a b", "a_", "\u00e4", "smoke:hall", b"a", ("a",), 1, None):
            self.assertIs(buildings.is_name(name), False)

    def test_right_buildings(self):
        self.assertIs(buildings.is_building(HOUSE), True)
        self.assertIs(buildings.is_building(GREATEST), True)
        self.assertIs(buildings.is_building(("building", ("a", "b"), (("a", "b", "a", "gate"),), ("a",), ())), True)

    def test_bounds(self):
        self.assertIs(buildings.is_building(put(HOUSE, (1,), ("out",))), False)
        self.assertIs(buildings.is_building(put(GREATEST, (1,), AREAS + ("more",))), False)
        self.assertIs(buildings.is_building(("building", ("a", "b"), (), ("x",), ())), False)
        self.assertIs(buildings.is_building(put(GREATEST, (2,), DOORS + (("g", "areaa", "areab", "leaf"),))), False)
        self.assertIs(buildings.is_building(("building", ("a", "b"), (("d", "a", "b", "leaf"),), (), ())), False)
        self.assertIs(buildings.is_building(put(GREATEST, (3,), ("x", "y", "z", "u"))), False)

    def test_wrong_parts(self):
        wrong = [((0,), "house"), ((1, 1), "out"), ((1, 0), "any"), ((1, 2), "Lab"), ((2, 0, 0), "inner"),
                 ((2, 0, 1), "hall"), ((2, 0, 1), "attic"), ((2, 0, 3), "door"), ((2, 1, 0), "any"), ((3, 0), "staff"),
                 ((3, 0), "any"), ((4, 0, 0), "chief"), ((4, 0, 1), "hall"), ((4, 0, 2), 2), ((4, 0, 2), -1),
                 ((4, 0), ("guest", "front")), ((2, 0), ("front", "out", "hall")), ((4, 0), HOUSE[4][1]),
                 ((4, 1), ("guest", "front", 0))]
        for path, new in wrong:
            self.assertIs(buildings.is_building(put(HOUSE, path, new)), False, path)
        self.assertIs(buildings.is_building(HOUSE[:4]), False)
        self.assertIs(buildings.is_building(HOUSE + ((),)), False)

    def test_rights_are_in_order_by_kinds_then_doors_then_sides(self):
        for at in range(len(RIGHTS) - 1):
            turned = RIGHTS[:at] + (RIGHTS[at + 1], RIGHTS[at]) + RIGHTS[at + 2:]
            self.assertIs(buildings.is_building(GREATEST[:4] + (turned,)), False)
        kinds = put(HOUSE, (3,), ("staff", "guest"))
        self.assertIs(buildings.is_building(kinds), False)
        self.assertIs(buildings.is_building(put(kinds, (4,), HOUSE[4][1:] + HOUSE[4][:1])), True)

    def test_names_may_be_shared_by_areas_doors_and_kinds(self):
        shared = ("building", ("hall", "lab"), (("hall", "hall", "lab", "gate"),), ("lab",), (("lab", "hall", 1),))
        self.assertIs(buildings.is_building(shared), True)

    def test_area_at(self):
        self.assertEqual(buildings.area_at(HOUSE, "front", 0), "out")
        self.assertEqual(buildings.area_at(HOUSE, "front", 1), "hall")
        self.assertEqual(buildings.area_at(HOUSE, "inner", 1), "lab")
        for side in (2, -1, True, False, "0"):
            with self.assertRaises(errors.BadSide):
                buildings.area_at(HOUSE, "front", side)
        with self.assertRaises(errors.BadDoor):
            buildings.area_at(HOUSE, "hall", 0)


if __name__ == "__main__":
    unittest.main()
