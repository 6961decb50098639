"""[72]: letters, nets and pointers."""
import itertools
import unittest

from helper import seeded
from housekept import errors, letters

NETS = [("net", late, lost) for late in range(4) for lost in (None, 0, 1, 2, 3)]


def slow_has(net, course):
    """Whether a course has a net, letter by letter."""
    _, late, lost = net
    ticks = len(course)
    for at, came in enumerate(course):
        if any(at + 1 > number + 1 + late for number in came):
            return False
    if lost is None:
        return True
    gone = [number for number in range(1, ticks + 1)
            if number + 1 + late <= ticks and not any(number in came for came in course)]
    return not any(all(start + more in gone for more in range(lost + 1)) for start in range(1, ticks + 1))


def slow_pointers(course):
    found, best = [], 0
    for came in course:
        for number in came:
            best = max(best, number)
        found.append(best)
    return found


def courses_of(ticks):
    """All courses of so many ticks in which at each tick any lot of letters comes."""
    lots = []
    for at in range(ticks):
        numbers = range(at + 1)
        lots.append([lot for many in range(at + 2) for lot in itertools.combinations(numbers, many)])
    return [list(course) for course in itertools.product(*lots)]


class Letters(unittest.TestCase):
    def test_is_letters(self):
        for course in ([], (), [()], [(0,)], [(0, 0), (1, 0, 1)], [()] * 400, [(at,) for at in range(400)], ((), (1,))):
            self.assertIs(letters.is_letters(course), True)
        for course in ([(1,)], [(), (2,)], [(-1,)], [(True,)], [(), (True,)], [[0]], [0], [()] * 401, None, "", {}, {(): 1},
                       [(), (None,)], [((0,),)]):
            self.assertIs(letters.is_letters(course), False)

    def test_is_net(self):
        for net in NETS:
            self.assertIs(letters.is_net(net), True)
        for net in (("net", 4, 0), ("net", -1, 0), ("net", 0, 4), ("net", 0, -1), ("net", None, 0), ("net", True, 0),
                    ("net", 0, False), ("web", 0, 0), ("net", 0), ["net", 0, 0], None):
            self.assertIs(letters.is_net(net), False)

    def test_heard_by_hand(self):
        course = [(), (1,), (), (1, 0), (3, 2), ()]
        self.assertEqual(letters.pointers(course), [0, 1, 1, 1, 3, 3])
        self.assertEqual(letters.heard(course, 0), [0, 1, None, None, None, None])
        self.assertEqual(letters.heard(course, 1), [0, 1, 1, None, 3, None])
        self.assertEqual(letters.heard(course, 2), [0, 1, 1, 1, 3, 3])
        self.assertEqual(letters.heard(course, 3), [0, 1, 1, 1, 3, 3])
        self.assertEqual(letters.heard([()] * 5, 3), [0, 0, 0, 0, None])
        self.assertEqual(letters.heard([], 0), [])
        for patience in (-1, 4, True, None):
            with self.assertRaises(errors.BadPatience):
                letters.heard(course, patience)

    def test_has_net_by_hand(self):
        self.assertIs(letters.has_net(("net", 0, 0), [(), (1,), (2,)]), True)
        self.assertIs(letters.has_net(("net", 0, 0), [(), (), (2,)]), False)
        self.assertIs(letters.has_net(("net", 0, 1), [(), (), (2,)]), True)
        self.assertIs(letters.has_net(("net", 0, None), [(), (), (1,)]), False)
        self.assertIs(letters.has_net(("net", 1, 0), [(), (), (1,)]), True)
        self.assertIs(letters.has_net(("net", 1, 0), [(), (), (2,)]), False)
        self.assertIs(letters.has_net(("net", 0, None), [(0,), (0,)]), False)
        self.assertIs(letters.has_net(("net", 1, None), [(0,), (0,)]), True)
        self.assertIs(letters.has_net(("net", 0, 3), [()] * 4), True)
        self.assertIs(letters.has_net(("net", 0, 3), [()] * 5), False)
        self.assertIs(letters.has_net(("net", 1, 3), [()] * 5), True)
        self.assertIs(letters.has_net(("net", 3, 0), [()] * 4), True)

    def test_pointer_rows_by_hand(self):
        net = ("net", 1, 1)
        for row in ([], [0], (0, 1), [0, 0, 0], [0, 0, 1], [0, 1, 1, 2], [0, 1, 1, 1]):
            self.assertIs(letters.is_pointer_row(net, row), True)
        for row in ([1], [0, 2], [0, -1], [0, 1, 0], [0, 0, 0, 0], [0, 1, 1, 1, 1], [False], [0, True], None, {}, [0, "1"], "0"):
            self.assertIs(letters.is_pointer_row(net, row), False)
        self.assertIs(letters.is_pointer_row(("net", 0, None), [0] * 400), True)
        self.assertIs(letters.is_pointer_row(("net", 0, None), [0] * 401), False)
        self.assertIs(letters.is_pointer_row(("net", 0, None), [0, 0, 0, 3]), True)
        self.assertIs(letters.is_pointer_row(("net", 0, None), [0, 0, 0, 2]), False)
        self.assertIs(letters.is_pointer_row(("net", 1, None), [0, 0, 0, 2]), True)

    def test_letters_of_by_hand(self):
        with self.assertRaises(errors.BadPointers):
            letters.letters_of(("net", 0, 0), [0, 0])
        with self.assertRaises(errors.BadPointers):
            letters.letters_of(("net", 0, 0), None)
        self.assertEqual(letters.letters_of(("net", 0, 0), [0, 1, 2]), [(), (1,), (2,)])
        self.assertEqual(letters.letters_of(("net", 2, 0), []), [])

    def test_letters_are_pointers(self):
        """All courses of up to four ticks: their pointers are exactly the rows that are let by."""
        for ticks in range(5):
            courses = courses_of(ticks)
            for net in NETS:
                rows = set()
                for course in courses:
                    held = slow_has(net, course)
                    self.assertIs(letters.has_net(net, course), held)
                    if held:
                        rows.add(tuple(slow_pointers(course)))
                let = {row for row in itertools.product(range(ticks), repeat=ticks) if letters.is_pointer_row(net, list(row))}
                self.assertEqual(let, rows if ticks else {()})
                for row in sorted(let):
                    self.check_course(net, list(row))

    def check_course(self, net, row):
        course = letters.letters_of(net, row)
        self.assertIs(letters.is_letters(course), True)
        self.assertTrue(slow_has(net, course), (net, row, course))
        self.assertEqual(slow_pointers(course), row)
        came = [number for lot in course for number in lot]
        self.assertEqual(len(came), len(set(came)))

    def test_long_rows(self):
        for seed in range(60):
            rand = seeded(seed)
            net = rand.choice(NETS)
            row, best = [], 0
            for at in range(rand.randint(5, 60)):
                let = [number for number in range(best, at + 1) if letters.is_pointer_row(net, row + [number])]
                best = rand.choice(let)
                row.append(best)
            self.check_course(net, row)
            course = letters.letters_of(net, row)
            for patience in range(4):
                silent = [None if at - best > patience else best for at, best in enumerate(row)]
                self.assertEqual(letters.heard(course, patience), silent)
        full = list(range(400))
        self.assertEqual(letters.pointers(letters.letters_of(("net", 3, 0), full)), full)


if __name__ == "__main__":
    unittest.main()
