"""[42]: promises, loads, and the search by brute force."""
import itertools
import unittest

from helper import HOUSE, TEXT, WORLD, put, seeded
from housekept import crowds, errors, judging, machines, promises

AREAS, KINDS = HOUSE[1], HOUSE[3]
WEB = ("web", (0, 1),
       (((("in",), ("guest", "out"), ("guest", "hall"), 1), (("tick",), None, None, 0)),
        ((("on",), ("guest", "hall"), ("guest", "lab"), 0), (("tick",), None, None, 1))))
IN, ON = WEB[2][0][0], WEB[2][1][0]


def random_web(rand, places=4, moves=4):
    rows = []
    for _ in range(places):
        row = {}
        for at in range(rand.randint(0, moves)):
            if rand.random() < 0.2:
                row[(("tick", at), None, None, rand.randrange(places))] = True
            else:
                kind, (one, other) = rand.choice(KINDS), rand.choices(AREAS, k=2)
                row[(("go", at % 2), (kind, one), (kind, other), rand.randrange(places))] = True
        rows.append(tuple(row))
    begins = tuple(sorted(rand.sample(range(places), rand.randint(1, 2))))
    return ("web", begins, tuple(rows))


def random_promise(rand, places=4):
    needs = tuple((rand.choice(KINDS + ("any",)), rand.choice(AREAS), rand.randint(1, 3)) for _ in range(rand.randint(0, 2)))
    return ("never", tuple(sorted(rand.sample(range(places), rand.randint(1, 2)))), needs)


def crowds_up_to(most):
    rows = list(itertools.product(range(most + 1), repeat=3))
    return [(one, other) for one in rows for other in rows]


def stepped(crowd, move):
    """The crowd behind a move, None if it does not lead on."""
    _, need, there, _ = move
    if need is None:
        return crowd
    rows = [list(row) for row in crowd]
    kind = KINDS.index(need[0])
    if rows[kind][AREAS.index(need[1])] == 0:
        return None
    rows[kind][AREAS.index(need[1])] -= 1
    rows[kind][AREAS.index(there[1])] += 1
    return tuple(tuple(row) for row in rows)


def met_by(loads, moment):
    return any(all(a <= b for row, beside in zip(load, moment[1]) for a, b in zip(row, beside)) for load in loads[moment[0]])


def slow_brute(web, loads, place, crowd, most):
    """The moments as they are met, by [42]: a list of moves, None, or "many"."""
    met, ways = [(place, crowd)], [[]]
    at = 0
    while at < len(met):
        if met_by(loads, met[at]):
            return ways[at]
        if at + 1 == most and len(met) > most:
            return "many"
        for move in web[2][met[at][0]]:
            behind = stepped(met[at][1], move)
            if behind is not None and (move[3], behind) not in met:
                met.append((move[3], behind))
                ways.append(ways[at] + [move])
        at += 1
        if at == most and len(met) > most:
            return "many"
    return None


class Promises(unittest.TestCase):
    def test_right_and_wrong_promises(self):
        for promise in (("never", (), ()), ("never", (0, 1), (("any", "out", 3),)), ("never", (1,), (("guest", "lab", 1),) * 2)):
            self.assertIs(promises.is_promise(HOUSE, WEB, promise), True)
        right = ("never", (0, 1), (("guest", "lab", 2), ("any", "hall", 1)))
        self.assertIs(promises.is_promise(HOUSE, WEB, right), True)
        for path, new in [((0,), "always"), ((1,), (1, 0)), ((1,), (0, 0)), ((1,), (2,)), ((1,), (-1,)), ((1,), (False,)),
                          ((2,), right[2] + right[2][:1]), ((2, 0, 0), "chief"), ((2, 0, 1), "any"), ((2, 0, 1), "attic"),
                          ((2, 0, 2), 0), ((2, 0, 2), 4), ((2, 0, 2), True), ((2, 0), ("guest", "lab")), ((1,), None)]:
            self.assertIs(promises.is_promise(HOUSE, WEB, put(right, path, new)), False)

    def test_is_broken(self):
        promise = ("never", (0,), (("guest", "lab", 2), ("any", "lab", 3)))
        for crowd, broken in ((((0, 0, 2), (0, 0, 1)), True), (((0, 0, 3), (0, 0, 0)), True), (((0, 0, 2), (0, 1, 0)), False),
                              (((0, 0, 1), (0, 0, 5)), False)):
            self.assertIs(promises.is_broken(HOUSE, WEB, promise, 0, crowd), broken)
            self.assertIs(promises.is_broken(HOUSE, WEB, promise, 1, crowd), False)
        self.assertIs(promises.is_broken(HOUSE, WEB, ("never", (1,), ()), 1, ((0, 0, 0), (0, 0, 0))), True)

    def test_loads_of_by_hand(self):
        promise = ("never", (1,), (("any", "lab", 2), ("guest", "hall", 1)))
        self.assertEqual(promises.loads_of(HOUSE, WEB, promise), ((), (
            ((0, 1, 0), (0, 0, 2)), ((0, 1, 1), (0, 0, 1)), ((0, 1, 2), (0, 0, 0)))))
        self.assertEqual(promises.loads_of(HOUSE, WEB, ("never", (0,), ())), ((((0, 0, 0), (0, 0, 0)),), ()))
        one = ("never", (0, 1), (("guest", "lab", 1), ("any", "lab", 2)))
        self.assertEqual(promises.loads_of(HOUSE, WEB, one)[0], (((0, 0, 1), (0, 0, 1)), ((0, 0, 2), (0, 0, 0))))
        with self.assertRaises(errors.BadPromise):
            promises.loads_of(HOUSE, WEB, ("never", (2,), ()))

    def test_loads_are_met_just_where_the_promise_is_broken(self):
        small = crowds_up_to(2)
        for seed in range(15):
            rand = seeded(seed)
            promise = random_promise(rand, 2)
            loads = promises.loads_of(HOUSE, WEB, promise)
            for lot in loads:
                self.assertEqual(list(lot), crowds.least_crowds(HOUSE, list(lot)))
            for crowd in rand.sample(small, 60):
                for place in (0, 1):
                    broken = promises.is_broken(HOUSE, WEB, promise, place, crowd)
                    self.assertIs(promises.are_met(HOUSE, WEB, loads, place, crowd), broken)
                    there = [sum(row[AREAS.index(area)] for name, row in zip(KINDS, crowd) if kind in ("any", name)) >= many
                             for kind, area, many in promise[2]]
                    self.assertIs(broken, place in promise[1] and all(there))

    def test_are_met_with_great_numbers(self):
        loads = ((((10 ** 99, 0, 0), (0, 0, 0)),), ())
        self.assertIs(promises.are_met(HOUSE, WEB, loads, 0, ((10 ** 99, 0, 1), (0, 0, 0))), True)
        self.assertIs(promises.are_met(HOUSE, WEB, loads, 0, ((10 ** 99 - 1, 0, 1), (0, 0, 0))), False)
        self.assertIs(promises.are_met(HOUSE, WEB, loads, 1, ((10 ** 99, 0, 1), (0, 0, 0))), False)

    def test_wrong_loads(self):
        zero = ((0, 0, 0), (0, 0, 0))
        for loads in (((),), ((), (), ()), [(), ()], ((), [zero]), ((zero,), (None,)), ((), (put(zero, (0, 0), True),)), (zero, ())):
            with self.assertRaises(errors.BadLoads):
                promises.are_met(HOUSE, WEB, loads, 0, zero)
        self.assertIs(promises.are_met(HOUSE, WEB, ((), (zero, zero)), 1, zero), True)

    def test_places_where(self):
        machine = machines.Machine(TEXT, WORLD)
        question = ("stands", "inner", "free")
        self.assertEqual(promises.places_where(machine, question),
                         tuple(at for at in range(len(machine)) if judging.holds(machine, at, question)))
        self.assertEqual(promises.places_where(machine, ("not", ("always",))), ())


class Brute(unittest.TestCase):
    loads = ((((0, 0, 2), (0, 0, 0)),), ())
    two = ((2, 0, 0), (0, 0, 0))

    def test_by_hand(self):
        self.assertEqual(promises.brute(HOUSE, WEB, self.loads, 0, self.two, 5), [IN, ON, IN, ON])
        self.assertEqual(promises.brute(HOUSE, WEB, self.loads, 0, ((0, 5, 2), (0, 0, 0)), 1), [])
        self.assertIsNone(promises.brute(HOUSE, WEB, self.loads, 0, ((1, 0, 0), (9, 9, 9)), 3))

    def test_most(self):
        # The moments are (0, 2 outside), (1, one in the hall), (0, one in the lab), (1, ..), (0, two in the lab).
        for most in (1, 2, 3, 4):
            with self.assertRaises(errors.TooMany) as caught:
                promises.brute(HOUSE, WEB, self.loads, 0, self.two, most)
            self.assertEqual(caught.exception.most, most)
        with self.assertRaises(errors.TooMany):
            promises.brute(HOUSE, WEB, self.loads, 0, ((1, 0, 0), (9, 9, 9)), 2)
        for most in (0, 20001, True, None):
            with self.assertRaises(errors.BadMost):
                promises.brute(HOUSE, WEB, self.loads, 0, self.two, most)
        self.assertEqual(len(promises.brute(HOUSE, WEB, self.loads, 0, self.two, 20000)), 4)

    def test_great_numbers(self):
        great = ((10 ** 99, 0, 10 ** 99), (0, 0, 0))
        loads = ((((0, 0, 10 ** 99 + 1), (0, 0, 0)),), ())
        self.assertEqual(promises.brute(HOUSE, WEB, loads, 0, great, 10), [IN, ON])
        with self.assertRaises(errors.TooMany):
            promises.brute(HOUSE, WEB, ((((0, 0, 10 ** 100), (0, 0, 0)),), ()), 0, great, 10)

    def test_against_a_plain_second_way(self):
        told = {"many": 0, "none": 0, "moves": 0}
        for seed in range(300):
            rand = seeded(seed)
            web = random_web(rand)
            loads = promises.loads_of(HOUSE, web, random_promise(rand))
            crowd = tuple(tuple(rand.randint(0, 2) if at == 0 else rand.randint(0, 1) for at in range(3)) for _ in range(2))
            place, most = rand.randrange(4), rand.choice([1, 2, 5, 20, 60])
            found = slow_brute(web, loads, place, crowd, most)
            if found == "many":
                with self.assertRaises(errors.TooMany):
                    promises.brute(HOUSE, web, loads, place, crowd, most)
            else:
                self.assertEqual(promises.brute(HOUSE, web, loads, place, crowd, most), found)
            told["many" if found == "many" else "none" if found is None else "moves"] += 1
        self.assertTrue(all(told.values()), told)


if __name__ == "__main__":
    unittest.main()
