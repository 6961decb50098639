"""[11]: ways."""
import itertools
import unittest

from helper import random_building, seeded
from housekept import errors, ways

# Two doors between out and hall, two ways on to the den: one straight, one through the lab.
NET = ("building", ("out", "hall", "lab", "den", "far"),
       (("a", "out", "hall", "leaf"), ("b", "hall", "out", "gate"), ("c", "hall", "lab", "leaf"),
        ("d", "lab", "den", "leaf"), ("e", "hall", "den", "leaf"), ("f", "out", "den", "leaf")),
       ("guest",), ())
ALL = ["a", "b", "c", "d", "e", "f"]


def slow_ways(building, free, area, other):
    """All ways, by trying all rows of free doors."""
    rows = {door[0]: door for door in building[2]}
    order = [door[0] for door in building[2]]
    found = []
    for many in range(len(free) + 1):
        for row in itertools.permutations(free, many):
            met = [area]
            for name in row:
                ends = rows[name][1:3]
                if met[-1] not in ends or met[-1] == other:
                    break
                met.append(ends[1] if ends[0] == met[-1] else ends[0])
            else:
                if met[-1] == other and len(set(met)) == len(met):
                    found.append((len(row), [order.index(name) for name in row], list(row), met))
    return [(row, met) for _, _, row, met in sorted(found)]


class Ways(unittest.TestCase):
    def test_joined(self):
        self.assertEqual(ways.joined(NET, []), [("out",), ("hall",), ("lab",), ("den",), ("far",)])
        self.assertEqual(ways.joined(NET, ["d", "b"]), [("out", "hall"), ("lab", "den"), ("far",)])
        self.assertEqual(ways.joined(NET, ALL), [("out", "hall", "lab", "den"), ("far",)])
        self.assertEqual(ways.joined(NET, ("f", "c")), [("out", "den"), ("hall", "lab"), ("far",)])

    def test_least_way(self):
        self.assertEqual(ways.least_way(NET, ALL, "out", "out"), [])
        self.assertEqual(ways.least_way(NET, ALL, "out", "hall"), ["a"])
        self.assertEqual(ways.least_way(NET, ["b", "c", "d", "e"], "den", "out"), ["e", "b"])
        self.assertEqual(ways.least_way(NET, ["f", "d", "b", "c"], "out", "lab"), ["b", "c"])
        self.assertIsNone(ways.least_way(NET, ALL, "out", "far"))
        self.assertIsNone(ways.least_way(NET, [], "out", "hall"))

    def test_narrows(self):
        self.assertEqual(ways.narrows(NET, ["a", "b", "c", "d"], "out", "den"), ("hall", "lab"))
        self.assertEqual(ways.narrows(NET, ["a", "c", "d", "e"], "out", "den"), ("hall",))
        self.assertEqual(ways.narrows(NET, ["a", "c", "d"], "den", "out"), ("lab", "hall"))
        self.assertEqual(ways.narrows(NET, ALL, "out", "den"), ())
        with self.assertRaises(errors.NoWay):
            ways.narrows(NET, ALL, "out", "far")
        with self.assertRaises(errors.SameArea):
            ways.narrows(NET, ALL, "far", "far")

    def test_parting_by_hand(self):
        self.assertEqual(ways.parting(NET, ALL, "out", "far"), ([], []))
        cut, rows = ways.parting(NET, ["a", "b", "c", "d"], "out", "den")
        self.assertEqual((len(cut), len(rows)), (1, 1))
        cut, rows = ways.parting(NET, ALL, "out", "den")
        self.assertEqual((len(cut), len(rows)), (3, 3))
        with self.assertRaises(errors.SameArea):
            ways.parting(NET, ALL, "out", "out")

    def test_wrong_doors(self):
        for free in (["a", "a"], ["x"], ["out"], "a", {"a": 1}, [("a",)]):
            with self.assertRaises(errors.BadDoors):
                ways.joined(NET, free)
        with self.assertRaises(errors.BadArea):
            ways.parting(NET, ALL, "out", "any")

    def test_against_a_plain_search(self):
        for seed in range(150):
            rand = seeded(seed)
            building = random_building(rand, rand.randint(2, 5), rand.randint(1, 6), 1)
            names = [door[0] for door in building[2]]
            free = [name for name in names if rand.random() < 0.8]
            rand.shuffle(free)
            areas = building[1]
            groups = ways.joined(building, free)
            self.assertEqual(sorted(sum(groups, ()), key=areas.index), list(areas))
            for area, other in itertools.product(areas, areas):
                found = slow_ways(building, free, area, other)
                together = any(area in group and other in group for group in groups)
                self.assertEqual(together, bool(found))
                self.assertEqual(ways.least_way(building, free, area, other), found[0][0] if found else None)
                if area != other:
                    self.check_pair(building, free, area, other, found)

    def check_pair(self, building, free, area, other, found):
        cut, rows = ways.parting(building, free, area, other)
        order = [door[0] for door in building[2]]
        self.assertEqual(cut, sorted(cut, key=order.index))
        self.assertTrue(all(name in free for name in cut))
        self.assertEqual(len(cut), len(rows))
        self.assertTrue(all(any(name in cut for name in row) for row, _ in found))
        self.assertTrue(all(row in [way for way, _ in found] for row in rows))
        used = [name for row in rows for name in row]
        self.assertEqual(len(used), len(set(used)))
        if found:
            between = [one for one in found[0][1][1:-1] if all(one in met for _, met in found)]
            self.assertEqual(ways.narrows(building, free, area, other), tuple(between))
            for _, met in found:
                self.assertEqual([one for one in met if one in between], between)
        else:
            with self.assertRaises(errors.NoWay):
                ways.narrows(building, free, area, other)


if __name__ == "__main__":
    unittest.main()
