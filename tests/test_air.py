"""[90]: air."""
import unittest

from helper import put
from housekept import air, errors

AIR = ("air", (("hall", 18, 24, 20), ("lab", 17, 22, 20)), 10,
       (("hall", "lab", 2, "inner"), ("lab", "hall", 3, "inner"), ("hall", "out", 1, None), ("lab", "out", 2, "back")),
       (("stove", "hall", 30), ("fan", "lab", -15), ("oven", "hall", 7)), (-2, 4, 0, 1))


class Air(unittest.TestCase):
    def test_right_airs(self):
        least = ("air", (("a", -40, -32, -40),), 1, (), (), (-40, -40, -40, 0))
        for value in (AIR, least, put(AIR, (2,), 12), put(AIR, (1, 0), ("hall", 40, 40, 40)), put(AIR, (5,), (32, 40, 40, 8)),
                      put(AIR, (4, 0, 2), 60), put(AIR, (4, 0, 2), -60), put(AIR, (3, 0, 2), 9), put(AIR, (3, 2, 3), "inner"),
                      put(AIR, (3,), AIR[3] + (("hall", "lab", 1, None), ("hall", "out", 1, "inner"))),
                      put(AIR, (1,), AIR[1] + (("den", 0, 8, 8),)), put(AIR, (4, 0, 0), "out")):
            self.assertIs(air.is_air(value), True, value)

    def test_wrong_airs(self):
        rooms, leaks, heaters = AIR[1], AIR[3], AIR[4]
        for path, new in [((0,), "wind"), ((1,), ()), ((1,), rooms + (("a", 0, 0, 0), ("b", 0, 0, 0))), ((1, 0, 0), "out"),
                          ((1, 0, 0), "lab"), ((1, 0, 0), "any"), ((1, 0, 1), 15), ((1, 0, 1), 21), ((1, 0, 2), 19),
                          ((1, 0, 2), 27), ((1, 0, 2), 41), ((1, 0, 3), 25), ((1, 0, 1), True), ((1, 0), ("hall", 18, 24)),
                          ((2,), 0), ((2,), 13), ((2,), 2), ((3,), leaks + leaks[:3]), ((3, 0), leaks[1]), ((3, 0, 0), "out"),
                          ((3, 0, 0), "den"), ((3, 0, 1), "hall"), ((3, 0, 1), "den"), ((3, 0, 2), 0), ((3, 0, 2), 10),
                          ((3, 0, 2), 11), ((3, 0, 3), "any"), ((3, 0, 3), 1), ((3, 3, 2), 8), ((4,), heaters + heaters[:1]),
                          ((4, 0, 0), "fan"), ((4, 0, 1), "out"), ((4, 0, 2), 0), ((4, 0, 2), 61), ((4, 0, 2), -61),
                          ((4, 0, 2), False), ((5,), (-2, 4, 0)), ((5, 0), -41), ((5, 0), 1), ((5, 0), -5), ((5, 1), 41),
                          ((5, 1), 7), ((5, 2), 5), ((5, 3), 9), ((5, 3), -1), ((5, 3), True)]:
            self.assertIs(air.is_air(put(AIR, path, new)), False, (path, new))

    def test_numbers_of_rows(self):
        bare = ("air", (("a", 0, 8, 4), ("b", 0, 0, 0), ("c", -8, 0, -1)), 12, (), (), (0, 0, 0, 0))
        leaks = tuple((one, other, 6, None) for one in "abc" for other in "abc" if one != other)
        heaters = tuple((name, "a", 1) for name in "abcd")
        for value in (bare, put(bare, (3,), leaks), put(bare, (4,), heaters[:3])):
            self.assertIs(air.is_air(value), True)
        for path, new in [((1,), ()), ((2,), 0), ((3,), leaks + (("a", "out", 1, None),)), ((4,), heaters),
                          ((3,), leaks[:5] + (("a", "out", 1, None),)), ((1, 0), ("a", 33, 41, 40)), ((1, 0), ("a", 33, 40, 41)),
                          ((1, 0), ("a", -41, -35, -35)), ((5,), (33, 41, 40, 0)), ((5,), (-41, -40, -40, 0))]:
            self.assertIs(air.is_air(put(bare, path, new)), False, (path, new))
        seven = tuple((one, other, 1, None) for one in "abc" for other in ("a", "b", "c", "out") if one != other)
        self.assertIs(air.is_air(put(bare, (3,), seven[:6])), True)
        self.assertIs(air.is_air(put(bare, (3,), seven[:7])), False)

    def test_leaks_alike_in_all_but_the_share(self):
        self.assertIs(air.is_air(put(AIR, (3,), AIR[3][:1] + (("hall", "lab", 1, "inner"),))), False)
        self.assertIs(air.is_air(put(AIR, (3,), AIR[3][2:3] + (("hall", "out", 3, None),))), False)

    def test_settings(self):
        for value in (((), ()), (("fan",), ()), (("fan", "oven", "stove"), ("back", "inner")), ((), ("inner",))):
            self.assertIs(air.is_setting(AIR, value), True)
        for value in ((("stove", "fan"), ()), (("fan", "fan"), ()), (("hall",), ()), ((), ("inner", "back")), ((), ("front",)),
                      ((), ()) + ((),), ([], ()), ((), []), [(), ()], ((), (None,)), None):
            self.assertIs(air.is_setting(AIR, value), False)

    def test_next_degrees_by_hand(self):
        # hall: 9 * 20 + 1 * -1 = 179; lab: 10 * 19.
        self.assertEqual(air.next_degrees(AIR, (20, 19), -1, ((), ())), (17, 19))
        # hall: 2 * 19 - 1 + 7 * 20 + 37 = 214; lab: 3 * 20 + 2 * -1 + 5 * 19 - 15 = 138.
        everything = (("fan", "oven", "stove"), ("back", "inner"))
        self.assertEqual(air.next_degrees(AIR, (20, 19), -1, everything), (21, 13))
        self.assertEqual(air.next_degrees(AIR, (-1000, 1000), 4, ((), ("inner",))), (-500, 400))

    def test_degrees_are_rounded_down(self):
        self.assertEqual(air.next_degrees(AIR, (-1, -1), 4, (("fan",), ())), (-1, -3))
        self.assertEqual(air.next_degrees(AIR, (0, 0), -1, ((), ())), (-1, 0))

    def test_wrong_arguments(self):
        setting = ((), ())
        for degrees in ((20,), (20, 19, 1), [20, 19], (20, True), (-1001, 0), (0, 1001), (None, 1)):
            with self.assertRaises(errors.BadDegrees):
                air.next_degrees(AIR, degrees, 0, setting)
        for weather in (-3, 5, True, None, "0"):
            with self.assertRaises(errors.BadWeather) as caught:
                air.next_degrees(AIR, (20, 19), weather, setting)
            self.assertEqual(caught.exception.at, 0)
        with self.assertRaises(errors.BadSetting):
            air.next_degrees(AIR, (20, 19), 0, (("hall",), ()))


if __name__ == "__main__":
    unittest.main()
