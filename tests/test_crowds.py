"""[40]: crowds and households."""
import unittest

from helper import HOUSE, put, seeded
from housekept import crowds, errors

CROWD = ((2, 0, 1), (10 ** 99, 3, 0))


class Crowds(unittest.TestCase):
    def test_right_and_wrong_crowds(self):
        for crowd in (CROWD, ((0, 0, 0), (0, 0, 0))):
            self.assertIs(crowds.is_crowd(HOUSE, crowd), True)
        for crowd in (((0, 0, 0),), ((0, 0), (0, 0)), ((0, 0, 0),) * 3, put(CROWD, (0, 0), -1), put(CROWD, (0, 0), True),
                      put(CROWD, (0,), [2, 0, 1]), list(CROWD), put(CROWD, (1, 1), "many"), put(CROWD, (1, 1), None)):
            self.assertIs(crowds.is_crowd(HOUSE, crowd), False)
        for household in ((0, 0), (5, 10 ** 99)):
            self.assertIs(crowds.is_household(HOUSE, household), True)
        for household in ((0,), (0, 0, 0), [0, 0], (0, -1), (0, False), (0, "many"), ((0,), (0,))):
            self.assertIs(crowds.is_household(HOUSE, household), False)

    def test_there_and_back(self):
        self.assertEqual(crowds.crowd_at(HOUSE, (3, 10 ** 99)), ((3, 0, 0), (10 ** 99, 0, 0)))
        self.assertEqual(crowds.household_of(HOUSE, CROWD), (3, 10 ** 99 + 3))

    def test_count_there(self):
        self.assertEqual(crowds.count_there(HOUSE, CROWD, "guest", "lab"), 1)
        self.assertEqual(crowds.count_there(HOUSE, CROWD, "staff", "hall"), 3)
        self.assertEqual(crowds.count_there(HOUSE, CROWD, "any", "out"), 10 ** 99 + 2)
        self.assertEqual(crowds.count_there(HOUSE, CROWD, "any", "hall"), 3)
        for kind in ("chief", "out", None):
            with self.assertRaises(errors.BadKind):
                crowds.count_there(HOUSE, CROWD, kind, "any")
        with self.assertRaises(errors.BadArea):
            crowds.count_there(HOUSE, CROWD, "any", "any")

    def test_is_within(self):
        self.assertIs(crowds.is_within(HOUSE, CROWD, CROWD), True)
        self.assertIs(crowds.is_within(HOUSE, put(CROWD, (1, 0), 5), CROWD), True)
        self.assertIs(crowds.is_within(HOUSE, CROWD, put(CROWD, (1, 0), 10 ** 99 - 1)), False)
        self.assertIs(crowds.is_within(HOUSE, put(CROWD, (0, 1), 1), CROWD), False)

    def test_least_crowds(self):
        less, more, far = put(CROWD, (0, 0), 1), put(CROWD, (0, 0), 3), put(put(CROWD, (0, 0), 0), (0, 2), 5)
        self.assertEqual(crowds.least_crowds(HOUSE, []), [])
        self.assertEqual(crowds.least_crowds(HOUSE, [more, far, CROWD, less, CROWD, less]), [far, less])
        self.assertEqual(crowds.least_crowds(HOUSE, (CROWD, CROWD)), [CROWD])
        for wrong in (CROWD, [CROWD, None], {CROWD: 1}, [list(CROWD)], None):
            with self.assertRaises(errors.BadCrowds):
                crowds.least_crowds(HOUSE, wrong)

    def test_least_crowds_against_a_plain_second_way(self):
        for seed in range(150):
            rand = seeded(seed)
            most = rand.choice([1, 2, 4, 10 ** 99])
            lot = [tuple(tuple(rand.randint(0, most) for _ in range(3)) for _ in range(2)) for _ in range(rand.randint(0, 40))]

            def within(one, other):
                return all(a <= b for row, beside in zip(one, other) for a, b in zip(row, beside))

            least = sorted({one for one in lot if not any(other != one and within(other, one) for other in lot)})
            self.assertEqual(crowds.least_crowds(HOUSE, lot), least)
            for one, other in zip(lot, lot[1:]):
                self.assertIs(crowds.is_within(HOUSE, one, other), within(one, other))


if __name__ == "__main__":
    unittest.main()
