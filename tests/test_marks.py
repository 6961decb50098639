"""Marks, against all walks up to some length."""
import unittest

import helper
from helper import BUTTONS, HOUSE, TEXT, WORLD, four_thousand, nodes, put, seeded
from housekept import errors, machines, marks, rules, webs

TICK = ("tick",)


def random_web(rand, size):
    labels = [TICK, TICK, ("a",), ("b", 1), ("tick", "stay")]
    moves = []
    for _ in range(size):
        lot = []
        for _ in range(rand.randint(0, 3)):
            move = (rand.choice(labels), None, None, rand.randrange(size))
            if move not in lot:
                lot.append(move)
        moves.append(tuple(lot))
    begins = tuple(sorted(rand.sample(range(size), min(size, rand.randint(1, 2)))))
    return ("web", begins, tuple(moves))


def random_mark(rand, size, share=0.3):
    return (tuple(at for at in range(size) if rand.random() < share),
            tuple(label for label in [TICK, ("a",), ("b", 1), ("c",)] if rand.random() < share))


def walks(web, most):
    """All walks with at most so many moves."""
    layer = [(begin, ()) for begin in web[1]]
    for _ in range(most + 1):
        yield from layer
        layer = [(begin, moves + ((label, behind),)) for begin, moves in layer
                 for label, _, _, behind in web[2][moves[-1][1] if moves else begin]]


def meets(walk, moment, mark):
    begin, moves = walk
    if moment % 2:
        return moves[moment // 2][0] in mark[1]
    return (moves[moment // 2 - 1][1] if moment else begin) in mark[0]


def ticks(walk, first, last):
    """The time from one moment to a later one."""
    return sum(walk[1][moment // 2][0] == TICK for moment in range(first + 1, last + 1) if moment % 2)


def open_meetings(walk, one, other):
    """The pairs (moment, wait) of the open meetings of a walk."""
    end = 2 * len(walk[1])
    for moment in range(end + 1):
        if meets(walk, moment, one) and not any(meets(walk, later, other) for later in range(moment, end + 1)):
            yield moment, ticks(walk, moment, end)


class Walks(unittest.TestCase):
    def test_open_places(self):
        rand = seeded(1)
        seen = {0: 0, 1: 0, 2: 0}
        for _ in range(120):
            size = rand.randint(1, 4)
            web = random_web(rand, size)
            one, other = random_mark(rand, size), random_mark(rand, size, 0.2)
            # Walks of so many moves come to all that is open with a wait of at most 2, or nearly: places are few.
            found, begun = {0: set(), 1: set(), 2: set()}, set()
            came = set()
            for walk in walks(web, 7):
                place = walk[1][-1][1] if walk[1] else walk[0]
                came.add(place)
                for moment, wait in open_meetings(walk, one, other):
                    if wait in found:
                        found[wait].add(place)
                    if moment >= 2 * len(walk[1]) - 1:
                        begun.add(place)
            self.assertEqual(marks.comes(web), tuple(sorted(came)))
            self.assertEqual(marks.starts(web, one, other), tuple(sorted(begun)))
            for t in (0, 1, 2):
                told = marks.open_places(web, one, other, t)
                self.assertTrue(found[t] <= set(told))
                if set(told) != found[t]:
                    # A longer walk is needed.
                    for walk in walks(web, 10):
                        place = walk[1][-1][1] if walk[1] else walk[0]
                        found[t] |= {place for _, wait in open_meetings(walk, one, other) if wait == t}
                self.assertEqual(told, tuple(sorted(found[t])))
                seen[t] += bool(told)
        self.assertGreater(min(seen.values()), 20)

    def test_greater_waits(self):
        """Each t by itself, stepping on from the places that are open one tick sooner."""
        rand = seeded(2)
        for _ in range(60):
            size = rand.randint(2, 9)
            web = random_web(rand, size)
            one, other = random_mark(rand, size), random_mark(rand, size, 0.15)
            lot = set(marks.starts(web, one, other))
            for t in range(30):
                todo = list(lot)
                for place in todo:
                    for label, _, _, behind in web[2][place]:
                        if label != TICK and label not in other[1] and behind not in other[0] and behind not in lot:
                            lot.add(behind)
                            todo.append(behind)
                self.assertEqual(marks.open_places(web, one, other, t), tuple(sorted(lot)))
                lot = {behind for place in lot for label, _, _, behind in web[2][place]
                       if label == TICK and TICK not in other[1] and behind not in other[0]}

    def test_is_walk(self):
        rand = seeded(3)
        for _ in range(60):
            web = random_web(rand, rand.randint(1, 4))
            for walk in list(walks(web, 3))[:40]:
                self.assertIs(marks.is_walk(web, walk), True)
                for path, item in nodes(walk):
                    if type(item) is tuple:
                        self.assertIs(marks.is_walk(web, put(walk, path, list(item))), False)
                    if type(item) is int:
                        self.assertIs(marks.is_walk(web, put(walk, path, bool(item))), False)
                        for new in (-1, 9):
                            self.assertIs(marks.is_walk(web, put(walk, path, new)), False)
                wrong = (walk[0], walk[1] + ((("no",), 0),))
                self.assertIs(marks.is_walk(web, wrong), False)
        web = ("web", (1,), (((TICK, None, None, 1),), ((("a",), ("guest", "out"), ("guest", "hall"), 0),)))
        # Needs are not looked at.
        self.assertIs(marks.is_walk(web, (1, ((("a",), 0), (TICK, 1)))), True)
        self.assertIs(marks.is_walk(web, (1, ())), True)
        self.assertIs(marks.is_walk(web, (0, ())), False)
        self.assertIs(marks.is_walk(web, (1, ((TICK, 1),))), False)
        for value in helper.any_values():
            self.assertIs(marks.is_walk(web, value), False)

    def test_by_hand(self):
        # 0 -a-> 1 -tick-> 2 -tick-> 1, and 2 -b-> 0.
        web = ("web", (0,), (((("a",), None, None, 1),), ((TICK, None, None, 2),), ((TICK, None, None, 1), (("b",), None, None, 0)), ()))
        one, other = ((), (("a",),)), ((0,), ())
        self.assertEqual(marks.starts(web, one, other), (1,))
        self.assertEqual([marks.open_places(web, one, other, t) for t in (0, 1, 2, 3, 399, 400)], [(1,), (2,), (1,), (2,), (2,), (1,)])
        # Answered at once: a meeting that the same moment answers is never open.
        self.assertEqual(marks.starts(web, ((0, 1), ()), ((1, 2), ())), (0,))
        self.assertEqual(marks.open_places(web, ((1,), ()), ((1,), ()), 0), ())
        self.assertEqual(marks.open_places(web, ((), (("a",),)), ((), (("a",),)), 0), ())
        # By a place behind the move that meets: answered by it.
        self.assertEqual(marks.starts(web, one, ((1,), ())), ())
        # The move ahead of the place does not count for a meeting at the place.
        self.assertEqual(marks.open_places(web, ((2,), ()), ((), (TICK,)), 0), (0, 1, 2))
        self.assertEqual(marks.open_places(web, ((2,), ()), ((), (TICK,)), 1), ())
        self.assertEqual(marks.comes(web), (0, 1, 2))
        self.assertEqual(marks.comes(("web", (3,), web[2])), (3,))
        # Somewhere where nobody comes there is no meeting.
        self.assertEqual(marks.starts(web, ((3,), ()), ((), ())), ())


class Marks(unittest.TestCase):
    def test_of_machines(self):
        machine = machines.Machine(TEXT, WORLD)
        web = webs.web_of(machine)
        question = ("both", ("stands", "front", "free"), ("running", "lamp"))
        labels = (("go", "guest", "front", 0), TICK)
        places = tuple(at for at in range(len(machine)) if rules.stands(TEXT, machine.standing(at), "front") == "free"
                       and machine.standing(at)[1][0] is not None)
        self.assertEqual(marks.mark_of(machine, question, labels), (places, labels))
        self.assertIs(marks.is_mark(web, (places, labels)), True)
        free, shut = marks.free_marks(machine, "inner")
        stands = [rules.stands(TEXT, machine.standing(at), "inner") for at in range(len(machine))]
        self.assertEqual(free, (tuple(at for at, how in enumerate(stands) if how == "free"), ()))
        self.assertEqual(shut, (tuple(at for at, how in enumerate(stands) if how == "shut"),
                                (("show", "staff", "inner", 0), ("show", "staff", "inner", 1))))
        front = marks.free_marks(machine, "front")[1][1]
        self.assertEqual(front, (("show", "guest", "front", 0), ("show", "staff", "front", 0)))
        both = HOUSE[:4] + (tuple((kind, "front", side) for kind in HOUSE[3] for side in (0, 1)),)
        other = machines.Machine(("text", both) + TEXT[2:], WORLD)
        self.assertEqual([label[1::2] for label in marks.free_marks(other, "front")[1][1]],
                         [("guest", 0), ("staff", 0), ("guest", 1), ("staff", 1)])
        self.assertEqual(marks.free_marks(other, "inner")[1][1], ())

    def test_is_mark(self):
        web = ("web", (0,), ((), (), ()))
        good = ((0, 2), (("a", 1), TICK))
        self.assertIs(marks.is_mark(web, good), True)
        self.assertIs(marks.is_mark(web, ((), ())), True)
        wrong = [None, (), [(), ()], ((2, 0), ()), ((0, 0), ()), ((3,), ()), ((-1,), ()), ((True,), ()), ([0], ()), ((), [TICK]), ((), (TICK, TICK)),
                 ((), ("tick",)), ((), ((1,),)), ((), ((),)), ((), (("a", None),)), ((), (("a", True),)), ((), (("a", ()),)), ((), (), ())]
        for value in wrong:
            self.assertIs(marks.is_mark(web, value), False, value)
            for call, rest in [(marks.starts, ()), (marks.open_places, (None,))]:
                with self.assertRaises(errors.BadMark):
                    call(web, value, ((), ()), *rest)
                with self.assertRaises(errors.BadMark):
                    call(web, ((), ()), value, *rest)

    def test_errors(self):
        web, none = ("web", (0,), ((),)), ((), ())
        machine = machines.Machine(TEXT, WORLD)
        for value in helper.any_values():
            for call, rest in [(marks.is_walk, (None,)), (marks.comes, ()), (marks.is_mark, (None,)), (marks.starts, (None, None)),
                               (marks.open_places, (None, None, None))]:
                with self.assertRaises(errors.BadWeb):
                    call(value, *rest)
            self.assertIs(marks.is_mark(web, value), False)
            with self.assertRaises(errors.BadQuestion):
                marks.mark_of(machine, value, None)
            if value != ():
                with self.assertRaises(errors.BadLabel):
                    marks.mark_of(machine, ("always",), value)
            with self.assertRaises(errors.BadDoor):
                marks.free_marks(machine, value)
            with self.assertRaises(errors.BadTicks):
                marks.open_places(web, none, none, value)
        for t in (-1, 401, True):
            with self.assertRaises(errors.BadTicks):
                marks.open_places(web, none, none, t)
        for call, rest in [(marks.mark_of, (None, None)), (marks.free_marks, (None,))]:
            with self.assertRaises(errors.BadMachine):
                call(web, *rest)
        for labels in [[TICK], (TICK, TICK), ("tick",), ((True,),), (("a", False),), None]:
            with self.assertRaises(errors.BadLabel):
                marks.mark_of(machine, ("always",), labels)
        self.assertEqual(marks.open_places(web=web, one=((0,), ()), other=none, t=0), (0,))

    def test_greatest(self):
        many = 20000
        ring = ("web", (0,), tuple(((TICK, None, None, (at + 1) % many), (("a",), None, None, at // 2)) for at in range(many)))
        self.assertEqual(len(marks.comes(ring)), many)
        self.assertEqual(marks.open_places(ring, ((many - 1,), ()), ((), (("a",),)), 400), (399,))
        self.assertEqual(len(marks.open_places(ring, ((), (TICK,)), ((0,), ()), 400)), many - 1)
        machine = machines.Machine(four_thousand(False), BUTTONS)
        web = webs.web_of(machine)
        running = marks.mark_of(machine, ("running", "t"), ())
        idle = marks.mark_of(machine, ("not", ("running", "t")), ())
        self.assertEqual(marks.open_places(web, running, idle, 400), running[0])


if __name__ == "__main__":
    unittest.main()
