"""Weathers and unseen weather, against all courses of weather, and a game over sets of weathers."""
import itertools
import unittest

import helper
from helper import put, seeded
from housekept import air, comfort, errors, unseen, weathers
from test_wrong import AIR


def random_air(rand, rooms=2, wide=4, doors=True):
    names = ["hall", "lab", "den"][:rand.randint(1, rooms)]
    rows = []
    for name in names:
        low = rand.randint(-10, 25)
        high = low + rand.randint(0, wide)
        rows.append((name, low, high, rand.randint(low, high)))
    whole = rand.randint(2, 10)
    leaks = {}
    for _ in range(rand.randint(0, 4)):
        area = rand.choice(names)
        other = rand.choice([one for one in names + ["out", "out"] if one != area])
        door = rand.choice([None, "one", "two"]) if doors else None
        share = rand.randint(1, max(1, whole // 3))
        if (area, other, door) not in leaks and share + sum(leaks[key] for key in leaks if key[0] == area) <= whole:
            leaks[(area, other, door)] = share
    leaks = tuple((area, other, share, door) for (area, other, door), share in leaks.items())
    heaters = tuple((name, rand.choice(names), rand.choice([-20, -5, 3, 8, 15, 30])) for name in ("fan", "stove")[:rand.randint(0, 2)])
    least = rand.randint(-10, 10)
    most = least + rand.randint(0, 3)
    return ("air", tuple(rows), whole, leaks, heaters, (least, most, rand.randint(least, most), rand.randint(0, 2)))


def settings(one):
    """All settings of an air."""
    names = [row[0] for row in one[4]]
    doors = sorted({row[3] for row in one[3] if row[3] is not None})
    lots = lambda items: [lot for many in range(len(items) + 1) for lot in itertools.combinations(sorted(items), many)]
    return [(on, free) for on in lots(names) for free in lots(doors)]


def courses(one, ticks):
    """All courses of weather."""
    least, most, first, move = one[5]
    rows = [()]
    for _ in range(ticks):
        rows = [row + (new,) for row in rows for new in range(least, most + 1) if abs(new - (row[-1] if row else first)) <= move]
    return rows


def along(one, plan, course):
    found = [tuple(row[3] for row in one[1])]
    for setting, weather in zip(plan, course):
        found.append(slow_degrees(one, found[-1], weather, setting))
    return found


def slow_degrees(one, degrees, weather, setting):
    """The next degrees of any size, as [90] tells them."""
    known = dict(zip([row[0] for row in one[1]], degrees))
    known["out"] = weather
    found = []
    for name, _, _, _ in one[1]:
        total, left = 0, one[2]
        for area, other, share, door in one[3]:
            if area == name and (door is None or door in setting[1]):
                total += share * known[other]
                left -= share
        total += known[name] * left + sum(gain for heater, area, gain in one[4] if area == name and heater in setting[0])
        found.append(total // one[2])
    return tuple(found)


def in_bounds(one, degrees):
    return all(row[1] <= degree <= row[2] for row, degree in zip(one[1], degrees))


class Weathers(unittest.TestCase):
    def each(self, seed, many, ticks=4):
        rand = seeded(seed)
        for _ in range(many):
            one = random_air(rand)
            self.assertIs(air.is_air(one), True)
            yield rand, one, [rand.choice(settings(one)) for _ in range(rand.randint(0, ticks))]

    def test_run_plan(self):
        for rand, one, plan in self.each(1, 80, 6):
            course = list(rand.choice(courses(one, len(plan))))
            found = weathers.run_plan(one, plan, course)
            self.assertEqual(found, along(one, plan, course))
            self.assertEqual(weathers.run_plan(one, tuple(plan), tuple(course)), found)

    def test_wrong_courses(self):
        """The first wrong tick of several; one in plan or course alone."""
        one = put(AIR, (5,), (0, 8, 4, 2))
        plan = [((), ())] * 3
        self.assertEqual(len(weathers.run_plan(one, plan, [6, 8, 8])), 4)
        for course, at in [([7, 0, 9], 1), ([6, 9, 9], 2), ([6, 8, 5], 3), ([6, 8], 3), ([], 1), ([6, 8, 8, 8], 4), ([6, 8, 8, None], 4),
                           ([6, 8, True], 3), ([None, 8, 8], 1), (["4"], 1), ([4, 4, 4, 4, 4], 4), ([6, 3], 2), (None, 0), ("446", 0),
                           ({}, 0), (3, 0), ([5, 5, [5]], 3)]:
            with self.assertRaises(errors.BadWeather) as caught:
                weathers.run_plan(one, plan, course)
            self.assertEqual(caught.exception.at, at, course)
        self.assertEqual(weathers.run_plan(one, [], []), [(20, 20)])
        with self.assertRaises(errors.BadWeather) as caught:
            weathers.run_plan(one, [], [4])
        self.assertEqual(caught.exception.at, 1)
        for wrong in ([((), ())] * 41, [((), ["inner"])], [[(), ()]], [((), ()), None], [(("no",), ())], None, "no", {}):
            with self.assertRaises(errors.BadPlan):
                weathers.run_plan(one, wrong, None)
            with self.assertRaises(errors.BadPlan):
                weathers.extremes(one, wrong)
            with self.assertRaises(errors.BadPlan):
                weathers.plan_broken(one, wrong)
        self.assertEqual(len(weathers.run_plan(one, [((), ())] * 40, [4] * 40)), 41)

    def test_coldest_and_hottest(self):
        one = put(AIR, (5,), (-3, 4, 1, 2))
        self.assertEqual(weathers.coldest(one, 4), [-1, -3, -3, -3])
        self.assertEqual(weathers.hottest(one, 4), [3, 4, 4, 4])
        self.assertEqual((weathers.coldest(one, 0), weathers.hottest(one, 0)), ([], []))
        self.assertEqual((len(weathers.coldest(one, 40)), len(weathers.hottest(one, 40))), (40, 40))
        for call in (weathers.coldest, weathers.hottest):
            for ticks in (-1, 41, True, None, "1"):
                with self.assertRaises(errors.BadTicks):
                    call(one, ticks)
            for value in helper.any_values():
                with self.assertRaises(errors.BadAir):
                    call(value, None)

    def test_extremes_and_broken(self):
        seen = {True: 0, False: 0}
        for _, one, plan in self.each(2, 150):
            rows = [along(one, plan, course) for course in courses(one, len(plan))]
            want = [tuple((min(row[at][room] for row in rows), max(row[at][room] for row in rows)) for room in range(len(one[1])))
                    for at in range(len(plan) + 1)]
            self.assertEqual(weathers.extremes(one, plan), want)
            broken = [at for at in range(len(plan) + 1) if not all(in_bounds(one, row[at]) for row in rows)]
            found = weathers.plan_broken(one, plan)
            self.assertIs(found is None, not broken)
            seen[found is None] += 1
            if broken:
                n = broken[0]
                cold, hot = weathers.coldest(one, n), weathers.hottest(one, n)
                self.assertEqual(found, hot if in_bounds(one, along(one, plan, cold)[-1]) else cold)
                self.assertFalse(in_bounds(one, along(one, plan[:n], found)[-1]))
        self.assertGreater(min(seen.values()), 20, seen)

    def test_by_hand(self):
        one = ("air", (("hall", 18, 22, 20),), 10, (("hall", "out", 2, None),), (("stove", "hall", 40),), (0, 8, 4, 4))
        # 20 * 8 and twice 0, or twice 8: 16 or 17.
        self.assertEqual(weathers.extremes(one, [((), ())]), [((20, 20),), ((16, 17),)])
        self.assertEqual(weathers.plan_broken(one, [((), ())]), [0])
        self.assertEqual(weathers.extremes(one, [(("stove",), ())]), [((20, 20),), ((20, 21),)])
        self.assertIsNone(weathers.plan_broken(one, [(("stove",), ())]))
        self.assertEqual(weathers.extremes(one, [(("stove",), ())] * 2)[2], ((20, 22),))
        self.assertEqual(weathers.plan_broken(one, [(("stove",), ())] * 9), [8, 8, 8])


class Knowing(unittest.TestCase):
    """The game over sets of weathers, not ranges."""

    def plain_after(self, one, degrees, lot, setting):
        """By the next degrees the sets of weathers that lead there."""
        least, most, _, move = one[5]
        found = {}
        for weather in range(least, most + 1):
            if any(abs(weather - ahead) <= move for ahead in lot):
                found.setdefault(slow_degrees(one, degrees, weather, setting), set()).add(weather)
        return found

    def plain_ranks(self, one, choices, doors):
        """Ranks by rounds: of (degrees, low, high)."""
        least, most = one[5][:2]
        ranges = [(low, high) for low in range(least, most + 1) for high in range(low, most + 1)]
        nodes = [(degrees, low, high) for degrees in itertools.product(*[range(row[1], row[2] + 1) for row in one[1]])
                 for low, high in ranges]
        nexts = {}
        for node in nodes:
            for choice, on in enumerate(choices):
                lot = set()
                for free in doors:
                    for degrees, came in self.plain_after(one, node[0], range(node[1], node[2] + 1), (on, free)).items():
                        lot.add((degrees, min(came), max(came)) if in_bounds(one, degrees) else None)
                nexts[(node, choice)] = lot
        ranks = {None: 0}
        number = 0
        while True:
            number += 1
            fresh = [node for node in nodes if node not in ranks
                     and all(any(behind in ranks for behind in nexts[(node, choice)]) for choice in range(len(choices)))]
            if not fresh:
                return {node: ranks.get(node, 0) for node in nodes}, nexts
            for node in fresh:
                ranks[node] = number

    def samples(self, seed, many):
        rand = seeded(seed)
        found = 0
        while found < many:
            one = random_air(rand, 1, 5)
            lots = settings(one)
            choices = tuple(dict.fromkeys(rand.choice(lots)[0] for _ in range(rand.randint(1, 3))))
            doors = tuple(dict.fromkeys(rand.choice(lots)[1] for _ in range(rand.randint(1, 2))))
            if one[5][0] < one[5][1]:
                found += 1
                yield rand, one, choices, doors

    def test_ranks_and_free(self):
        seen = {0: 0, 1: 0, "more": 0}
        for _, one, choices, doors in self.samples(3, 60):
            game = unseen.Unseen(one, choices, doors)
            self.assertEqual((game.air, game.choices, game.doors), (one, choices, doors))
            ranks, nexts = self.plain_ranks(one, choices, doors)
            for node, rank in ranks.items():
                self.assertIs(unseen.is_knowledge(one, node), True)
                self.assertEqual(game.rank(node), rank)
                free = tuple(choice for choice in range(len(choices))
                             if all(behind is not None and ranks[behind] == 0 for behind in nexts[(node, choice)]))
                self.assertEqual(game.free(node), free)
                self.assertIs(free == (), rank > 0)
                seen[rank if rank in seen else "more"] += 1
        self.assertGreater(min(seen.values()), 30, seen)

    def test_thermometer(self):
        """Airs near to one in which the weather outside must be seen."""
        rand = seeded(4)
        some = none = 0
        for _ in range(60):
            least, wide = rand.randint(1, 3), rand.randint(5, 7)
            one = ("air", (("hall", 0, 4, 0),), 10, (("hall", "out", rand.randint(4, 6), rand.choice([None, None, "one"])),),
                   (("fan", "hall", -37 + rand.randint(-3, 3)), ("stove", "hall", 35 + rand.randint(-3, 3))), (least, least + wide, least, 1))
            choices, doors = ((), ("fan",), ("stove",)), (((), ("one",)) if one[3][0][3] else ((),))
            game = comfort.Comfort(one, choices, doors)
            ranks, _ = self.plain_ranks(one, choices, doors)
            want = [state for state in game.states() if game.rank(state) == 0 and ranks[(state[0], state[1], state[1])] > 0]
            self.assertEqual(unseen.thermometer(one, choices, doors), want[0] if want else None)
            some += bool(want)
            none += not want
        self.assertGreater(min(some, none), 8)
        one = ("air", (("hall", 0, 4, 0),), 10, (("hall", "out", 5, None),), (("fan", "hall", -37), ("stove", "hall", 35)), (2, 8, 2, 1))
        self.assertEqual(unseen.thermometer(one, ((), ("fan",), ("stove",)), ((),)), ((0,), 2))

    def test_known_after(self):
        seen = {True: 0, False: 0}
        for rand, one, _, _ in self.samples(5, 150):
            least, most = one[5][:2]
            low = rand.randint(least, most)
            degrees = tuple(rand.randint(row[1], row[2]) for row in one[1])
            knowledge = (degrees, low, rand.randint(low, most))
            setting = rand.choice(settings(one))
            after = self.plain_after(one, degrees, range(knowledge[1], knowledge[2] + 1), setting)
            for new in itertools.product(range(one[1][0][1] - 2, one[1][0][2] + 3), repeat=len(one[1])):
                found = unseen.known_after(one, knowledge, setting, new)
                if new in after and in_bounds(one, new):
                    self.assertEqual(found, (new, min(after[new]), max(after[new])))
                    self.assertEqual(len(after[new]), found[2] - found[1] + 1)
                else:
                    self.assertIsNone(found)
                seen[found is None] += 1
        self.assertGreater(min(seen.values()), 50)

    def test_weathers_that_fit(self):
        many = 0
        for rand, one, _, _ in self.samples(6, 150):
            plan = [rand.choice(settings(one)) for _ in range(rand.randint(0, 4))]
            course = rand.choice(courses(one, len(plan)))
            rows = along(one, plan, course)[1:]
            if rows and rand.random() < 0.3:
                rows[-1] = tuple(degree + rand.choice([-1, 1]) for degree in rows[-1])
            want = sorted({other[-1] for other in courses(one, len(plan)) if along(one, plan, other)[1:] == rows} if plan else {one[5][2]})
            found = unseen.weathers_that_fit(one, plan, rows)
            self.assertEqual(found, want)
            many += len(found) > 1
            # It is the range that known_after tells, tick by tick.
            knowledge = (tuple(row[3] for row in one[1]), one[5][2], one[5][2])
            for setting, degrees in zip(plan, rows):
                knowledge = knowledge and unseen.known_after(one, knowledge, setting, degrees)
            if knowledge:
                self.assertEqual(found, list(range(knowledge[1], knowledge[2] + 1)))
        self.assertGreater(many, 20)

    def test_degrees_of_any_size(self):
        one = ("air", (("hall", 0, 8, 4),), 1, (), (("stove", "hall", 60),), (0, 3, 1, 1))
        plan = [(("stove",), ())] * 40
        rows = [(4 + 60 * (at + 1),) for at in range(40)]
        self.assertEqual(unseen.weathers_that_fit(one, plan, rows), [0, 1, 2, 3])
        self.assertEqual(unseen.weathers_that_fit(one, plan[:1], [(10 ** 99,)]), [])
        self.assertEqual(unseen.weathers_that_fit(one, [], []), [1])
        for wrong in [rows[1:], [], rows + rows[:1], [list(row) for row in rows], [(1, 2)] * 40, [(True,)] * 40, [(None,)] * 40, None, "x", {}]:
            with self.assertRaises(errors.BadDegrees):
                unseen.weathers_that_fit(one, plan, wrong)
        with self.assertRaises(errors.BadPlan):
            unseen.weathers_that_fit(one, plan + plan[:1], None)
        for degrees in ((1001,), (-1001,), (True,), [1], (1, 1), (), None):
            with self.assertRaises(errors.BadDegrees):
                unseen.known_after(one, ((4,), 0, 3), ((), ()), degrees)
        self.assertIsNone(unseen.known_after(one, ((4,), 0, 3), ((), ()), (1000,)))
        self.assertIsNone(unseen.known_after(one, ((4,), 0, 3), ((), ()), (-1000,)))
        with self.assertRaises(errors.BadSetting):
            unseen.known_after(one, ((4,), 0, 3), ((), [])[:1], None)

    def test_is_knowledge(self):
        one = ("air", (("hall", 0, 8, 4), ("lab", -3, -1, -2)), 1, (), (), (0, 3, 1, 1))
        for value in [((0, -3), 0, 3), ((8, -1), 3, 3), ((4, -2), 0, 0)]:
            self.assertIs(unseen.is_knowledge(one, value), True)
        wrong = [((9, -3), 0, 3), ((0, 0), 0, 3), ((0, -3), -1, 3), ((0, -3), 0, 4), ((0, -3), 2, 1), ((0, -3), True, 3), ((0, -3), 0, True),
                 ((True, -3), 0, 3), ([0, -3], 0, 3), [(0, -3), 0, 3], ((0,), 0, 3), ((0, -3, 0), 0, 3), ((0, -3), 0), ((0, -3), 0, None)]
        game = unseen.Unseen(one, ((),), ((),))
        for value in wrong + helper.any_values():
            self.assertIs(unseen.is_knowledge(one, value), False)
            for call in (game.rank, game.free):
                with self.assertRaises(errors.BadKnowledge):
                    call(value)
            with self.assertRaises(errors.BadKnowledge):
                unseen.known_after(one, value, None, None)

    def test_two_thousand(self):
        # 45 ranges of nine weathers; 44 and 45 lots of degrees are 1980 and 2025 knowledges.
        def wide(one, other, most):
            return ("air", (("hall", 0, one - 1, 0), ("lab", 0, other - 1, 0)), 2, (("hall", "out", 1, None),), (), (0, most, 0, 1))
        game = unseen.Unseen(wide(9, 4, 8), ((),), ((),))
        self.assertGreaterEqual(game.rank(((0, 0), 0, 8)), 0)
        for one, error in [(wide(9, 5, 8), errors.TooMany), (wide(8, 5, 8), None), (wide(9, 9, 5), None), (wide(9, 9, 8), errors.TooMany)]:
            if error is None:
                unseen.Unseen(one, ((),), ((),))
                unseen.thermometer(one, ((),), ((),))
                continue
            for call in (unseen.Unseen, unseen.thermometer):
                with self.assertRaises(error) as caught:
                    call(one, ((),), ((),))
                self.assertEqual(caught.exception.most, 2000)
        # Ten ranges of four weathers and 200 lots of degrees are just 2000; 216 are more.
        def cube(one, other, third):
            rows = (("hall", 0, one - 1, 0), ("lab", 0, other - 1, 0), ("den", 0, third - 1, 0))
            return ("air", rows, 3, (("hall", "lab", 1, None), ("lab", "out", 1, None)), (), (0, 3, 0, 1))
        exact = unseen.Unseen(cube(8, 5, 5), ((),), ((),))
        self.assertEqual(exact.rank(((0, 0, 0), 0, 0)) > 0, exact.free(((0, 0, 0), 0, 0)) == ())
        with self.assertRaises(errors.TooMany):
            unseen.Unseen(cube(6, 6, 6), ((),), ((),))
        # Of a thousand states and more Comfort tells first.
        three = ("air", (("hall", 0, 8, 0), ("lab", 0, 8, 0), ("den", 0, 8, 0)), 2, (), (), (0, 1, 0, 1))
        with self.assertRaises(errors.TooMany) as caught:
            unseen.thermometer(three, ((),), ((),))
        self.assertEqual(caught.exception.most, 1000)
        with self.assertRaises(errors.TooMany) as caught:
            unseen.Unseen(three, ((),), ((),))
        self.assertEqual(caught.exception.most, 2000)
        with self.assertRaises(errors.BadDoors):
            unseen.Unseen(three, ((),), ())
        with self.assertRaises(errors.BadChoices):
            unseen.thermometer(three, (), None)

    def test_largest(self):
        one = ("air", (("hall", 0, 8, 4), ("lab", 0, 3, 2)), 12, (("hall", "out", 1, None), ("lab", "hall", 2, "one"), ("lab", "out", 1, "two")),
               (("fan", "hall", -9), ("oven", "lab", 8), ("stove", "hall", 14)), (0, 8, 4, 1))
        lots = settings(one)
        choices = tuple(dict.fromkeys(on for on, _ in lots))
        doors = tuple(dict.fromkeys(free for _, free in lots))
        self.assertEqual((len(choices), len(doors)), (8, 4))
        game = unseen.Unseen(one, choices, doors)
        for degrees in itertools.product(range(9), range(4)):
            self.assertIs(game.free((degrees, 0, 8)) == (), game.rank((degrees, 0, 8)) > 0)


if __name__ == "__main__":
    unittest.main()
