"""The bench, against a state worked off by hand, and all rows of deeds tried one by one."""
import copy
import unittest

import helper
from helper import BEGIN, HOUSE, PLAIN, RINGS, SMALL, TEXT, Plain, counting, random_building, random_text, random_world
from helper import seeded
from housekept import bench, errors, exchange, machines, rules

ROOM = ("never", ("always",), (("guest", "room", 1),))
QUIET = ("world", (), (), (), 0)
NEW = TEXT[:2] + ((("mode", ("night", "day")),), (("lamp", 2),), (), TEXT[5][:2])


def state_of(one):
    return (one.text, one.household, one.now, one.kept, one.log, one.crowd(), one.doors(), len(one))


class Second:
    """A bench as [142] tells it, all deeds done again from the beginning."""

    def __init__(self, text, household, log):
        self.text, self.now, self.kept = text, rules.begin(text), {}
        self.crowd = [[many] + [0] * (len(text[1][1]) - 1) for many in household]
        for deed in log:
            self.answer = self.do(*deed)

    def area(self, door, side):
        return self.text[1][1].index([row for row in self.text[1][2] if row[0] == door][0][1 + side])

    def do(self, word, *rest):
        if word in ("show", "go"):
            kind, door, side = rest
            row = self.crowd[self.text[1][3].index(kind)]
            if row[self.area(door, side)] == 0:
                raise errors.NotThere("")
            if word == "go":
                if rules.stands(self.text, self.now, door) != "free":
                    raise errors.NotFree("")
                row[self.area(door, side)] -= 1
                row[self.area(door, 1 - side)] += 1
            return self.work(("card", door, side, kind) if word == "show" else ("pass", door, side))
        if word == "signal":
            return self.work(rest[0])
        if word == "exchange":
            self.now = exchange.carried(self.text, rest[0], self.now)
            self.text = rest[0]
        elif word == "keep":
            self.kept[rest[0]] = copy.deepcopy((self.text, self.now, self.crowd))
        else:
            if rest[0] not in self.kept:
                raise errors.NotKept(rest[0])
            self.text, self.now, self.crowd = copy.deepcopy(self.kept[rest[0]])

    def work(self, signal):
        account = Plain(self.text).account(self.now, signal)
        self.now = account[0]
        return account


def random_deed(rand, text):
    word = rand.choice(["show", "show", "go", "go", "signal", "signal", "exchange", "keep", "back"])
    if word in ("show", "go"):
        return (word, rand.choice(text[1][3]), rand.choice(text[1][2])[0], rand.randint(0, 1))
    if word == "signal":
        return (word, rand.choice([one for one in rules.signals(text) if one[0] not in ("card", "pass")]))
    if word == "exchange":
        return (word, random_text(rand, text[1], 8))
    return (word, rand.choice(["x", "y"]))


def do(one, deed):
    return getattr(one, deed[0])(*deed[1:])


class Deeds(unittest.TestCase):
    def test_against_all_done_again(self):
        rand = seeded(1)
        raised = 0
        for _ in range(60):
            text = random_text(rand, random_building(rand, 3, 2, 2), 14)
            household = [rand.randint(0, 2), rand.randint(0, 2)]
            one = bench.Bench(text, household)
            log = []
            for _ in range(25):
                if log and rand.random() < 0.15:
                    self.assertIsNone(one.undo())
                    log.pop()
                else:
                    deed = random_deed(rand, text)
                    ahead = state_of(one)
                    try:
                        second = Second(text, household, log + [deed])
                    except errors.KeptError as error:
                        raised += 1
                        with self.assertRaises(type(error)):
                            do(one, deed)
                        self.assertEqual(state_of(one), ahead)
                        continue
                    self.assertEqual(do(one, deed), second.answer)
                    log.append(deed)
                second = Second(text, household, log)
                doors = tuple(rules.stands(second.text, second.now, row[0]) for row in text[1][2])
                self.assertEqual(state_of(one), (second.text, household, second.now, sorted(second.kept), log,
                                                 tuple(map(tuple, second.crowd)), doors, len(log)))
        self.assertGreater(raised, 100)

    def test_by_hand(self):
        one = bench.Bench(TEXT, (2, 1))
        self.assertEqual(state_of(one), (TEXT, [2, 1], BEGIN, [], [], ((2, 0, 0), (1, 0, 0)), ("shut", "shut"), 0))
        with self.assertRaises(errors.NotFree):
            one.go("guest", "front", 0)
        account = one.show("guest", "front", 0)
        self.assertEqual((account[2], account[1][0]), ((1,), ([("card", "front", 0, "guest")], (0,))))
        with self.assertRaises(errors.NotThere):
            one.show("guest", "front", 1)
        one.go("guest", "front", 0)
        self.assertEqual((one.crowd(), one.doors()), (((1, 1, 0), (1, 0, 0)), ("shut", "shut")))
        # The gate shuts behind the person: the next one finds it shut.
        with self.assertRaises(errors.NotFree):
            one.go("guest", "front", 0)
        self.assertEqual(one.log, [("show", "guest", "front", 0), ("go", "guest", "front", 0)])
        one.signal(("stuck", "front"))
        one.show("staff", "front", 0)
        self.assertEqual((one.doors(), one.now[0][0]), (("shut", "shut"), "free"))
        with self.assertRaises(errors.NotFree):
            one.go("staff", "front", 0)

    def test_keep_and_back(self):
        one = bench.Bench(TEXT, [1, 0])
        one.keep("a")
        one.show("guest", "front", 0)
        one.keep("b")
        one.exchange(NEW)
        self.assertEqual(one.text, NEW)
        one.back("b")
        self.assertEqual((one.text, one.doors(), one.kept), (TEXT, ("free", "shut"), ["a", "b"]))
        one.back("a")
        self.assertEqual((one.now, one.kept, len(one)), (BEGIN, ["a", "b"], 6))
        one.keep("b")
        one.go if one.doors()[0] == "free" else one.undo()
        # What keep kept in the place of another moment is taken back, too.
        one.back("b")
        self.assertEqual(one.doors(), ("free", "shut"))
        for _ in range(6):
            one.undo()
        self.assertEqual((one.kept, one.log), (["a"], [("keep", "a")]))
        one.undo()
        self.assertEqual((one.kept, one.log, one.now), ([], [], BEGIN))
        with self.assertRaises(errors.NothingDone):
            one.undo()
        for name in [None, "a", "A", 3, ["a"], {}, one]:
            with self.assertRaises(errors.NotKept) as caught:
                one.back(name)
            self.assertIs(caught.exception.name, name)

    def test_endless_and_too_long(self):
        one = bench.Bench(RINGS, [1, 0])
        account = one.signal(("button", 3))
        self.assertEqual((account[0], account[2], account[4]), (rules.begin(RINGS), (), True))
        self.assertEqual(one.log, [("signal", ("button", 3))])
        other = bench.Bench(counting("b", 1022), [3])
        kept = state_of(other)
        with self.assertRaises(errors.TooLong) as caught:
            other.signal(("button", 0))
        self.assertEqual((caught.exception.most, state_of(other)), (1000, kept))

    def test_copies_and_equality(self):
        one = bench.Bench(TEXT, [1, 1])
        one.keep("a")
        one.show("guest", "front", 0)
        other = one.copy()
        self.assertTrue(one == other and not one != other)
        other.keep("b")
        self.assertEqual((one.kept, other.kept, one == other), (["a"], ["a", "b"], False))
        one.keep("b")
        self.assertTrue(one == other)
        one.undo()
        one.undo()
        self.assertEqual((len(one), len(other), other.doors()), (1, 3, ("free", "shut")))
        other.undo()
        other.undo()
        self.assertTrue(one == other)
        self.assertFalse(bench.Bench(TEXT, [1, 1]) == bench.Bench(TEXT, [1, 2]))
        self.assertFalse(bench.Bench(TEXT, [1, 1]) == bench.Bench(NEW, [1, 1]))
        self.assertTrue(bench.Bench(TEXT, [1, 1]) == bench.Bench(TEXT, (1, 1)))
        # Another log to the same state is another bench.
        two = bench.Bench(TEXT, [1, 1])
        two.signal(("tick",))
        self.assertFalse(two == bench.Bench(TEXT, [1, 1]))
        for value in helper.any_values() + [TEXT, 0, [("keep", "a")]]:
            self.assertFalse(one == value)
            self.assertTrue(one != value)
        for call in (iter, list):
            with self.assertRaises(TypeError):
                call(one)

    def test_what_is_returned_is_new(self):
        household = [1, 1]
        one = bench.Bench(TEXT, household)
        household.append(3)
        one.keep("a")
        for read in (lambda: one.household, lambda: one.kept, lambda: one.log):
            read().clear()
        self.assertEqual((one.household, one.kept, one.log), ([1, 1], ["a"], [("keep", "a")]))
        self.assertEqual([type(one.household), type(one.kept), type(one.log)], [list] * 3)
        account = one.show("guest", "front", 0)
        account[1].clear()
        self.assertEqual(one.doors(), ("free", "shut"))

    def test_tried(self):
        one = bench.Bench(TEXT, [1, 1])
        one.keep("a")
        ahead = state_of(one)

        def breaks(error):
            def task(given):
                given.show("guest", "front", 0)
                given.keep("b")
                given.undo()
                given.undo()
                given.undo()
                raise error
            return task

        for error in [errors.NotThere("no"), KeyError("x"), ValueError(), RuntimeError("x"), KeyboardInterrupt()]:
            with self.assertRaises(type(error)) as caught:
                one.tried(breaks(error))
            self.assertIs(caught.exception, error)
            self.assertEqual(state_of(one), ahead)
        with self.assertRaises(TypeError):
            one.tried(None)
        self.assertIsNone(one.tried(lambda given: given.keep("c")))
        self.assertEqual(one.kept, ["a", "c"])
        self.assertIs(one.tried(lambda given: given), one)

        def inner(given):
            try:
                given.tried(breaks(KeyError("x")))
            except KeyError:
                return len(given)
        self.assertEqual(one.tried(inner), 2)
        self.assertEqual(one.tried(task=len), 2)

    def test_errors_change_nothing(self):
        one = bench.Bench(TEXT, [1, 0])
        one.keep("a")
        ahead = state_of(one)
        for call in (one.show, one.go):
            for args, error in [((None, None, None), errors.BadKind), (("any", "front", 0), errors.BadKind),
                                (("guest", "hall", 0), errors.BadDoor), (("guest", ["front"], 9), errors.BadDoor),
                                (("guest", "front", True), errors.BadSide), (("guest", "front", 2), errors.BadSide),
                                (("staff", "front", 0), errors.NotThere), (("guest", "front", 1), errors.NotThere)]:
                with self.assertRaises(error):
                    call(*args)
        for signal in [None, ("tick", 1), ("card", "front", 0, "guest"), ("pass", "front", 0), ["tick"], ("smoke", "out", "yes"),
                       ("button", 6), ("button", True), ("stuck", "hall"), ("becomes", "mode", "day")]:
            with self.assertRaises(errors.BadSignal):
                one.signal(signal)
        for name in [None, "", "any", "toolongname", "A", ["a"], 1]:
            with self.assertRaises(errors.BadName):
                one.keep(name)
        with self.assertRaises(errors.BadText) as caught:
            one.exchange(TEXT[:5] + ((),))
        self.assertEqual(caught.exception.place, (5,))
        with self.assertRaises(errors.UnlikeBuildings):
            one.exchange(PLAIN)
        self.assertEqual(state_of(one), ahead)

    def test_households(self):
        self.assertEqual(bench.Bench(TEXT, [20, 0]).crowd(), ((20, 0, 0), (0, 0, 0)))
        for household in [None, [1], [1, 1, 1], [20, 1], [-1, 1], [True, 1], (1, "1"), {0: 1, 1: 1}, "11", [[1], [1]], [10 ** 99, 0]]:
            with self.assertRaises(errors.BadHousehold):
                bench.Bench(TEXT, household)
        with self.assertRaises(errors.BadText):
            bench.Bench(None, None)


class Promises(unittest.TestCase):
    def deeds_of(self, one, world):
        """All deeds of the world that can be done, with a bench behind each, in the order of moves."""
        text = one.text
        stuck = sum(how is not None for how in one.now[3])
        rows = [("show", kind, door[0], side) for kind in text[1][3] for door in text[1][2] for side in (0, 1)]
        rows += [("go", kind, door[0], side) for kind in text[1][3] for door in text[1][2] for side in (0, 1)]
        rows += [("signal", signal) for signal in machines.signals_in(text, world) if signal[0] not in ("card", "pass")
                 and not (signal[0] == "stuck" and stuck >= world[4])]
        for deed in rows:
            other = one.copy()
            try:
                do(other, deed)
            except (errors.NotThere, errors.NotFree):
                continue
            yield deed, other

    def second_still(self, one, promise, world):
        """The least row by trying all, those to one moment once."""
        layer, seen = [([], one)], set()
        while layer:
            for row, other in layer:
                if not other.holds(promise):
                    return row
            nexts = []
            for row, other in layer:
                for deed, behind in self.deeds_of(other, world):
                    if (behind.now, behind.crowd()) not in seen:
                        seen.add((behind.now, behind.crowd()))
                        nexts.append((row + [deed], behind))
            layer = nexts
        return None

    def test_against_all_rows(self):
        rand = seeded(2)
        seen = {}
        while sum(seen.values()) < 60:
            text = random_text(rand, random_building(rand, 2, 2, 1), 6, 2)
            door = text[1][2][0][0]
            text = text[:5] + (((("card", door, "any", "any"), ("always",), (("let", door, "free"),)),) + text[5],)
            one = bench.Bench(text, [rand.randint(0, 2)])
            for _ in range(rand.randint(0, 4)):
                deed = random_deed(rand, text)
                if deed[0] != "exchange":
                    try:
                        do(one, deed)
                    except errors.KeptError:
                        pass
            world = random_world(rand, text)
            question = rand.choice([("always",), ("stands", text[1][2][0][0], "free"), ("is", text[1][2][-1][0], "free")])
            promise = ("never", question, (("any", text[1][1][1], rand.randint(1, 2)),)[:rand.randint(0, 1)])
            if len(machines.Machine(text, world, start=one.now)) > 40:
                continue
            log = one.log
            want = self.second_still(one, promise, world)
            self.assertEqual(one.still(promise, world), want)
            guarded = [deed for deed, behind in self.deeds_of(one, world) if self.second_still(behind, promise, world) is not None]
            self.assertEqual(one.guarded(promise, world), guarded)
            self.assertEqual(one.log, log)
            size = None if want is None else min(len(want), 3)
            seen[size] = seen.get(size, 0) + 1
        self.assertGreater(min(seen.get(size, 0) for size in (None, 0, 1, 2)), 2, seen)

    def test_by_hand(self):
        one = bench.Bench(PLAIN, [1])
        show, go = ("show", "guest", "door", 0), ("go", "guest", "door", 0)
        self.assertIs(one.holds(ROOM), True)
        self.assertEqual(one.still(ROOM, QUIET), [show, go])
        self.assertEqual(one.guarded(ROOM, QUIET), [show, ("signal", ("tick",))])
        do(one, show)
        self.assertEqual(one.still(ROOM, QUIET), [go])
        # Each deed leaves it possible that somebody comes in.
        self.assertEqual(one.guarded(ROOM, QUIET), [show, go, ("signal", ("tick",))])
        do(one, go)
        self.assertEqual((one.holds(ROOM), one.still(ROOM, QUIET)), (False, []))
        # There is no right from inside: who is in stays in.
        self.assertEqual(one.guarded(ROOM, QUIET), [("show", "guest", "door", 1), ("signal", ("tick",))])
        nobody = bench.Bench(PLAIN, [0])
        self.assertIsNone(nobody.still(ROOM, QUIET))
        self.assertEqual(nobody.guarded(ROOM, QUIET), [])
        two = ("never", ("always",), (("any", "room", 1), ("guest", "out", 1)))
        self.assertEqual(bench.Bench(PLAIN, [1]).guarded(two, QUIET), [])
        self.assertIs(bench.Bench(PLAIN, [1]).holds(("never", ("stands", "door", "shut"), ())), False)

    def test_stuck_doors(self):
        """With a door stuck shut for good nobody comes in; a second fault there is none."""
        one = bench.Bench(PLAIN, [1])
        world = ("world", (), (), ("door",), 1)
        self.assertIn(("signal", ("stuck", "door")), one.guarded(ROOM, world))
        one.signal(("stuck", "door"))
        self.assertIsNone(one.still(ROOM, QUIET))
        self.assertEqual(one.still(ROOM, world), [("show", "guest", "door", 0), ("signal", ("mended", "door")), ("go", "guest", "door", 0)])
        self.assertEqual(one.guarded(ROOM, world), [("show", "guest", "door", 0), ("signal", ("mended", "door")), ("signal", ("tick",))])

    def test_after_an_exchange(self):
        one = bench.Bench(TEXT, [1, 0])
        one.exchange(NEW)
        self.assertIs(one.holds(("never", ("is", "mode", "night"), ())), True)
        with self.assertRaises(errors.BadPromise):
            one.holds(("never", ("least", "seen", 1), ()))

    def test_wrong(self):
        one = bench.Bench(TEXT, [1, 0])
        good = ("never", ("always",), ())
        for promise in [None, (), ("never", ("always",)), ["never", ("always",), ()], ("never", ("right",), ()), ("always", ("always",), ()),
                        ("never", ("always",), []), ("never", ("always",), (("guest", "hall", 0),)), ("never", (0,), ()),
                        ("never", ("always",), (("guest", "hall", 1),) * 3), ("never", ("always",), (("guest", "hall", True),)),
                        ("never", ("always",), (("guests", "hall", 1),)), ("never", ("always",), (("any", "any", 1),))]:
            with self.assertRaises(errors.BadPromise):
                one.holds(promise)
            for call in (one.still, one.guarded):
                with self.assertRaises(errors.BadPromise):
                    call(promise, None)
        for world in [None, (), ("world", (), (), (), True), ["world", (), (), (), 0], ("world", ("out",), (), (), 0)]:
            for call in (one.still, one.guarded):
                with self.assertRaises(errors.BadWorld):
                    call(good, world)

    def test_too_many(self):
        one = bench.Bench(TEXT, [1, 0])
        world = machines.whole_world(TEXT)
        promise = ("never", ("always",), (("any", "lab", 3), ("any", "hall", 3)))
        for call in (one.still, one.guarded):
            with self.assertRaises(errors.TooMany) as caught:
                call(promise, world)
            self.assertEqual(caught.exception.most, 5000)
        more = bench.Bench(helper.four_thousand(True), [1])
        with self.assertRaises(errors.TooMany) as caught:
            more.still(("never", ("always",), ()), helper.BUTTONS)
        self.assertEqual(caught.exception.most, 4000)
        just = bench.Bench(helper.four_thousand(False), [1])
        self.assertEqual(just.still(("never", ("always",), ()), helper.BUTTONS), [])
        self.assertIsNone(just.still(("never", ("stands", "door", "free"), ()), helper.BUTTONS))
        long = bench.Bench(counting("b", 1022), [0])
        with self.assertRaises(errors.TooLong):
            long.still(("never", ("always",), ()), helper.BUTTONS)

    def test_long_log(self):
        one = bench.Bench(TEXT, [20, 0])
        for _ in range(400):
            one.signal(("tick",))
        self.assertEqual(len(one), 400)
        for _ in range(400):
            one.undo()
        self.assertTrue(one == bench.Bench(TEXT, [20, 0]))
        self.assertEqual(HOUSE, one.text[1])
        self.assertEqual(SMALL, PLAIN[1])


if __name__ == "__main__":
    unittest.main()
