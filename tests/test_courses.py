"""[41]: courses."""
import itertools
import unittest

from helper import HOUSE, put
from housekept import courses, crowds, errors

WEB = ("web", (0,),
       (((("in",), ("guest", "out"), ("guest", "hall"), 1), (("tick",), None, None, 0),
         (("show",), ("staff", "out"), ("staff", "out"), 0)),
        ((("on",), ("guest", "hall"), ("guest", "lab"), 0), (("tick",), None, None, 1))))
IN, TICK, SHOW = WEB[2][0]
ON = WEB[2][1][0]
CROWD = ((2, 0, 0), (0, 0, 0))


class Courses(unittest.TestCase):
    def test_led(self):
        self.assertEqual(courses.led(HOUSE, WEB, 0, CROWD, []), [(0, CROWD)])
        self.assertEqual(courses.led(HOUSE, WEB, 0, CROWD, [TICK, IN, ON, IN]), [
            (0, CROWD), (0, CROWD), (1, ((1, 1, 0), (0, 0, 0))), (0, ((1, 0, 1), (0, 0, 0))), (1, ((0, 1, 1), (0, 0, 0)))])
        many = ((10 ** 99, 0, 0), (0, 0, 0))
        self.assertEqual(courses.led(HOUSE, WEB, 0, many, (IN,))[-1], (1, ((10 ** 99 - 1, 1, 0), (0, 0, 0))))

    def test_wrong_moves(self):
        for place, moves, at in [(0, None, 0), (0, {}, 0), (0, "moves", 0), (0, [ON], 0), (0, [TICK, SHOW], 1), (0, [IN, IN], 1),
                                 (0, [IN, ON, IN, ON, IN], 4), (1, [ON], 0), (0, [TICK, None, None], 1), (0, [list(TICK)], 0),
                                 (0, [put(IN, (3,), True)], 0), (0, [IN, put(ON, (3,), False)], 1), (0, [{}], 0),
                                 (0, [put(IN, (3,), 0)], 0)]:
            with self.assertRaises(errors.BadMoves) as caught:
                courses.led(HOUSE, WEB, place, CROWD, moves)
            self.assertEqual(caught.exception.at, at)

    def test_labels_with_truths_are_other_labels(self):
        web = ("web", (0,), (((("button", 1), None, None, 0),),))
        self.assertEqual(len(courses.led(HOUSE, web, 0, CROWD, [(("button", 1), None, None, 0)])), 2)
        with self.assertRaises(errors.BadMoves):
            courses.led(HOUSE, web, 0, CROWD, [(("button", True), None, None, 0)])

    def test_webs_of_other_buildings(self):
        for path, new in (((2, 0, 0, 1), ("guest", "attic")), ((2, 0, 0, 2), ("guest", "attic")), ((2, 1, 0, 2), None)):
            with self.assertRaises(errors.BadWeb):
                courses.led(HOUSE, put(WEB, path, new), 0, CROWD, [])
        chief = put(put(WEB, (2, 0, 0, 1), ("chief", "out")), (2, 0, 0, 2), ("chief", "hall"))
        with self.assertRaises(errors.BadWeb):
            courses.led(HOUSE, chief, 0, CROWD, [])
        for place in (-1, 2, True, None):
            with self.assertRaises(errors.BadPlace):
                courses.led(HOUSE, WEB, place, None, [])

    def test_ahead(self):
        self.assertEqual(courses.ahead(HOUSE, TICK, CROWD), CROWD)
        self.assertEqual(courses.ahead(HOUSE, IN, CROWD), ((3, 0, 0), (0, 0, 0)))
        self.assertEqual(courses.ahead(HOUSE, IN, ((2, 2, 0), (0, 0, 0))), ((3, 1, 0), (0, 0, 0)))
        self.assertEqual(courses.ahead(HOUSE, SHOW, CROWD), ((2, 0, 0), (1, 0, 0)))
        self.assertEqual(courses.ahead(HOUSE, SHOW, ((0, 0, 0), (5, 0, 0))), ((0, 0, 0), (5, 0, 0)))

    def test_ahead_is_the_least(self):
        small = [((a, b, c), (d, 0, 0)) for a, b, c, d in itertools.product(range(3), repeat=4)]
        for move in (IN, ON, SHOW, TICK):
            for goal in small:
                found = []
                for crowd in [((a, b, c), (d, 0, 0)) for a, b, c, d in itertools.product(range(4), repeat=4)]:
                    web = ("web", (0,), ((put(move, (3,), 0),),))
                    try:
                        behind = courses.led(HOUSE, web, 0, crowd, [put(move, (3,), 0)])[-1][1]
                    except errors.BadMoves:
                        continue
                    if crowds.is_within(HOUSE, goal, behind):
                        found.append(crowd)
                self.assertEqual(crowds.least_crowds(HOUSE, found), [courses.ahead(HOUSE, move, goal)])

    def test_wrong_moves_of_ahead(self):
        for move in (None, IN[:3], put(IN, (0,), ()), put(IN, (1,), None), put(IN, (1,), ("guest", "attic")), put(IN, (3,), -1),
                     put(IN, (3,), True), put(IN, (2,), ("staff", "hall")), list(IN), put(TICK, (2,), ("guest", "out"))):
            with self.assertRaises(errors.BadMove):
                courses.ahead(HOUSE, move, CROWD)


if __name__ == "__main__":
    unittest.main()
