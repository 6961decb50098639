"""Times, against all walks up to some length and places spread tick by tick."""
import unittest

import helper
from helper import HOUSE, TEXT, WORLD, four_thousand, put, seeded
from housekept import errors, escapes, machines, marks, promises, times, webs
from test_marks import TICK, meets, open_meetings, random_mark, random_web, ticks, walks


def plain_within(web, one, other, most=60):
    """The least t at which no place is open, tick by tick; None if there is none up to most."""
    for t in range(most):
        if not marks.open_places(web, one, other, t):
            return t
    return None


def order_of(web, walk):
    """By what walks of as many moves are in order."""
    begin, moves = walk
    keys, here = [web[1].index(begin)], begin
    for label, behind in moves:
        steps = [(move[0], move[3]) for move in web[2][here]]
        keys.append(steps.index((label, behind)))
        here = behind
    return keys


def first_of(web, found):
    """Of some (walk, moment) that with the fewest moves, the first walk, the least moment."""
    return min(found, key=lambda pair: (len(pair[0][1]), order_of(web, pair[0]), pair[1]))


class FirstMeetings:
    """Walks with the fewest moves, the first ones first, each with the waits of its open meetings.

    A group is what can be at the end of one walk, and at the end of none ahead of it: a whole with the bit 0
    for the walk itself, and the bit w + 1 for an open meeting whose wait is w. Waits above the most are left out.
    """

    def __init__(self, web, one, other, most):
        self.web = web
        self.mask = (1 << (most + 1)) - 1
        self.places = [{at: True for at in mark[0]} for mark in (one, other)]
        self.labels = [{word: True for word in mark[1]} for mark in (one, other)]
        self.seen = {}
        self.steps = {}
        self.groups = []

    def steps_from(self, place):
        """The steps of a place, but for those that do what one ahead of them does."""
        if place not in self.steps:
            found = {}
            for step in [(label, behind) for label, _, _, behind in self.web[2][place]]:
                label = step[0]
                key = (step[1], label == TICK, label in self.labels[0], label in self.labels[1])
                found.setdefault(key, step)
            self.steps[place] = [(key, found[key]) for key in found]
        return self.steps[place]

    def arrived(self, place, begun, waits, answered):
        """The waits of meetings that are open, and those that are answered, behind a place."""
        meets = place in self.places[0] and begun
        if place in self.places[1]:
            return 0, answered | waits | (1 if meets else 0)
        return (waits | (1 if meets else 0)) & self.mask, answered

    def stepped(self, group, key):
        """The waits of open and of answered meetings behind a step from a group."""
        behind, is_tick, meets, answers = key
        begun = group & 1
        waits = group >> 1
        if is_tick:
            waits = waits << 1
        if meets and begun:
            waits = waits | 1
        if answers:
            return self.arrived(behind, begun, 0, waits)
        return self.arrived(behind, begun, waits, 0)

    def enter(self, place, begun, waits, parent):
        """Take in what is new at a place."""
        group = ((waits << 1) | begun) & ~self.seen.get(place, 0)
        if group:
            self.seen[place] = self.seen.get(place, 0) | group
            self.groups.append((place, group, parent))

    def walk_to(self, parent):
        """The walk of a parent: of a group, or of a begin, and the last step behind it."""
        steps = []
        while parent[0] is not None:
            steps.append(parent[1])
            parent = self.groups[parent[0]][2]
        return (parent[1], tuple(steps[::-1]))

    def search(self, is_goal):
        """The first of the shortest walks whose (open waits, answered waits) are a goal."""
        for begin in self.web[1]:
            waits, answered = self.arrived(begin, 1, 0, 0)
            if is_goal(waits, answered):
                return (begin, ())
            self.enter(begin, 1, waits, (None, begin))
        at = 0
        while at < len(self.groups):
            place, group, _ = self.groups[at]
            for key, step in self.steps_from(place):
                waits, answered = self.stepped(group, key)
                if is_goal(waits, answered):
                    return self.walk_to((at, step))
                self.enter(step[1], group & 1, waits, (at, step))
            at += 1
        return None


class Times(unittest.TestCase):
    def each(self, number, many=150, size=6, share=0.25):
        rand = seeded(number)
        for _ in range(many):
            web = random_web(rand, rand.randint(1, size))
            one, other = random_mark(rand, len(web[2])), random_mark(rand, len(web[2]), share)
            yield rand, web, one, other

    def test_within_and_clock(self):
        seen = {None: 0, 0: 0, "more": 0}
        for _, web, one, other in self.each(1, 300):
            t = times.within(web, one, other)
            self.assertEqual(t, plain_within(web, one, other))
            seen[t if t in seen else "more"] += 1
            clock = times.clock(web, one, other)
            self.assertIs(clock is None, t is None)
            # There is a clock or a ring, never both.
            self.assertIs(times.ring(web, one, other) is None, t is not None)
            if clock is not None:
                self.assertIs(times.is_clock(web, one, other, clock), True)
                self.assertEqual(times.bound(web, one, other, clock), t)
                self.assertEqual(list(clock), sorted(clock))
                came = {place for at in range(t + 1) for place in marks.open_places(web, one, other, at)}
                self.assertEqual(set(clock), came)
                for place in clock:
                    self.assertEqual(clock[place], self.longest(web, other, place))
        self.assertGreater(min(seen.values()), 30)

    def longest(self, web, other, place, deep=9):
        """The greatest number of ticks of rows of moves from a place that never meet other, up to some length."""
        if deep == 0:
            return 0
        found = [0]
        for label, _, _, behind in web[2][place]:
            if label not in other[1] and behind not in other[0]:
                if label == TICK or behind != place:
                    found.append((label == TICK) + self.longest(web, other, behind, deep - 1))
        return max(found)

    def test_is_clock(self):
        """No clock has a lesser whole at a key; a key too few, or a whole too small by one, is no clock."""
        for rand, web, one, other in self.each(2, 250):
            clock = times.clock(web, one, other)
            if not clock:
                continue
            for place in clock:
                less = dict(clock)
                less[place] -= 1
                self.assertIs(times.is_clock(web, one, other, less), False)
                with self.assertRaises(errors.BadClock):
                    times.bound(web, one, other, less)
                few = {key: clock[key] for key in clock if key != place}
                self.assertIs(times.is_clock(web, one, other, few), False)
                self.assertIs(times.is_clock(web, one, other, {**clock, place: str(clock[place])}), False)
            more = {place: clock[place] + 3 for place in clock}
            self.assertEqual(times.bound(web, one, other, more),
                             max(more[place] for place in marks.starts(web, one, other)) + 1)
            self.assertIs(times.is_clock(web, one, other, {**clock, len(web[2]): 0}), False)
            self.assertIs(times.is_clock(web, one, other, {**clock, -1: 0}), False)
            self.assertIs(times.is_clock(web, one, other, {**clock, "0": 0}), False)
            self.assertIs(times.is_clock(web, one, other, list(clock)), False)

    def test_clocks_by_hand(self):
        # 0 -a-> 1 -tick-> 2 -tick-> 3 -b-> 0
        step = lambda label, at: ((label, None, None, at),)
        web = ("web", (0,), (step(("a",), 1), step(TICK, 2), step(TICK, 3), step(("b",), 0), step(TICK, 4)))
        one, other = ((), (("a",),)), ((), (("b",),))
        self.assertEqual(times.within(web, one, other), 3)
        self.assertEqual(times.clock(web, one, other), {1: 2, 2: 1, 3: 0})
        self.assertIs(times.is_clock(web, one, other, {1: 2, 2: 1, 3: 0}), True)
        self.assertIs(times.is_clock(web, one, other, {1: 9, 2: 8, 3: 0, 0: 9}), True)
        # The place 4 goes round by ticks for ever: no whole is enough there.
        self.assertIs(times.is_clock(web, one, other, {1: 9, 2: 8, 3: 0, 4: 7}), False)
        for wrong in ({}, {1: 2, 2: 1}, {1: 1, 2: 1, 3: 0}, {1: 2, 2: 1, 3: -1}, {True: 2, 2: 1, 3: 0}, {1: 2, 2: True, 3: 0},
                      {1: 2, 2: 1, 3: None}, {1: 2, 2: 1, 3: 0, 5: 0}):
            self.assertIs(times.is_clock(web, one, other, wrong), False, wrong)
            with self.assertRaises(errors.BadClock):
                times.bound(web, one, other, wrong)
        never = ((9,), ()), ((), ())
        self.assertEqual(times.within(web, ((), ()), other), 0)
        self.assertEqual(times.clock(web, ((), ()), other), {})
        self.assertEqual(times.bound(web, ((), ()), other, {}), 0)
        with self.assertRaises(errors.BadMark):
            times.within(web, never[0], never[1])
        # Where the meeting is answered in its own moment, or by the place behind its move, nothing is ever open.
        self.assertEqual(times.within(web, ((2,), ()), ((2,), ())), 0)
        self.assertEqual(times.within(web, one, ((1,), ())), 0)
        self.assertEqual(times.late(web, one, other, 2), ((0, ((("a",), 1), (TICK, 2), (TICK, 3))), 1))
        self.assertEqual(times.late(web, one, other, 0), ((0, ((("a",), 1),)), 1))
        self.assertIsNone(times.late(web, one, other, 3))

    def test_ring(self):
        rings = 0
        for _, web, one, other in self.each(3, 200, 5, 0.15):
            ring = times.ring(web, one, other)
            if ring is None:
                continue
            rings += 1
            self.assertIs(times.is_ring(web, one, other, ring), True)
            (begin, moves), moment, turn = ring
            self.assertIs(marks.is_walk(web, (begin, moves)), True)
            self.assertIn(moment, [at for at, _ in open_meetings((begin, moves), one, other)])
            self.assertIs(marks.is_walk(web, (begin, moves + turn)), True)
            self.assertEqual(turn[-1][1], moves[-1][1] if moves else begin)
            self.assertIn(TICK, [label for label, _ in turn])
            self.assertIn(moment, [at for at, _ in open_meetings((begin, moves + turn * 3), one, other)])
            for wrong in ((begin, moves), moment, turn), [(begin, moves), moment, turn]:
                self.assertIs(times.is_ring(web, one, other, wrong), type(wrong) is tuple)
            self.assertIs(times.is_ring(web, one, other, ((begin, moves), moment, ())), False)
            self.assertIs(times.is_ring(web, one, other, ((begin, moves), moment, list(turn))), False)
            self.assertIs(times.is_ring(web, one, other, ((begin, moves), -1, turn)), False)
            self.assertIs(times.is_ring(web, one, other, ((begin, moves), 2 * len(moves) + 1, turn)), False)
            self.assertIs(times.is_ring(web, one, other, ((begin, moves), str(moment), turn)), False)
            for at in range(2 * len(moves) + 1):
                right = at in [first for first, _ in open_meetings((begin, moves), one, other)]
                self.assertIs(times.is_ring(web, one, other, ((begin, moves), at, turn)), right)
            quiet = tuple(step for step in turn if step[0] != TICK)
            self.assertIs(times.is_ring(web, one, other, ((begin, moves), moment, quiet)), False)
        self.assertGreater(rings, 40)

    def test_ring_begins_at_its_moment(self):
        web = ("web", (0,), (((TICK, None, None, 0),),))
        self.assertEqual(times.ring(web, ((0,), ()), ((), ())), ((0, ()), 0, ((TICK, 0),)))
        walk, moment, turn = times.ring(web, ((), (TICK,)), ((), ()))
        self.assertEqual((moment, turn), (1, ((TICK, 0),)))
        self.assertEqual(walk, (0, ((TICK, 0),)))
        self.assertIsNone(times.ring(web, ((0,), ()), ((), (TICK,))))

    def test_late_against_all_walks(self):
        seen = 0
        for _, web, one, other in self.each(4, 120, 4, 0.2):
            rows = [walk for walk in walks(web, 6)]
            found = {}
            for walk in rows:
                for moment, wait in open_meetings(walk, one, other):
                    found.setdefault(wait, []).append((walk, moment))
            within = times.within(web, one, other)
            for t in range(4):
                late = times.late(web, one, other, t)
                self.assertIs(late is None, within is not None and within <= t)
                if late is not None and len(late[0][1]) <= 6:
                    self.assertEqual(late, first_of(web, found[t]))
                    seen += t > 0 and len(late[0][1]) > 2
                elif late is not None:
                    self.assertNotIn(t, found)
        self.assertGreater(seen, 20)

    def test_late_against_a_search(self):
        """Greater waits, against walks that are met one by one, the first ones first."""
        seen = 0
        for rand, web, one, other in self.each(7, 120, 7, 0.12):
            for t in (5, 23, 400):
                late = times.late(web, one, other, t)
                walk = FirstMeetings(web, one, other, t).search(lambda held, _: held >> t & 1 == 1)
                self.assertEqual(late and late[0], walk)
                if late is not None:
                    moments = [moment for moment, wait in open_meetings(walk, one, other) if wait == t] if t < 30 else [late[1]]
                    self.assertEqual(late[1], min(moments))
                    seen += len(walk[1]) > t + 2
        self.assertGreater(seen, 15)

    def test_bounds_of_t(self):
        web = ("web", (0, 1), (((TICK, None, None, 1),), ((("a",), None, None, 1), (TICK, None, None, 0))))
        walk, moment = times.late(web, ((1,), ()), ((), ()), 400)
        self.assertEqual((len(walk[1]), moment, walk[0]), (400, 0, 1))
        self.assertEqual(ticks(walk, moment, 800), 400)
        self.assertEqual(times.late(web, ((1,), ()), ((), ()), 0), ((1, ()), 0))
        for t in (-1, 401, True, None, "0", 10 ** 99):
            with self.assertRaises(errors.BadTicks):
                times.late(web, ((1,), ()), ((), ()), t)

    def test_late_beyond_four_hundred(self):
        """A row of a thousand ticks: within is not bounded by what late can be asked for."""
        many = 1000
        web = ("web", (0,), tuple(((TICK, None, None, at + 1),) for at in range(many)) + ((),))
        self.assertEqual(times.within(web, ((0,), ()), ((), ())), many + 1)
        self.assertEqual(times.clock(web, ((0,), ()), ((), ()))[0], many)
        walk, moment = times.late(web, ((0,), ()), ((), ()), 400)
        self.assertEqual((len(walk[1]), moment), (400, 0))

    def test_responses_go_through(self):
        rand = seeded(5)
        seen = 0
        for _ in range(400):
            web = random_web(rand, rand.randint(1, 5))
            a, b, c = [random_mark(rand, len(web[2]), 0.5) for _ in range(3)]
            one, two = times.within(web, a, b), times.within(web, b, c)
            if one is not None and two is not None:
                whole = times.within(web, a, c)
                self.assertIsNotNone(whole)
                self.assertLessEqual(whole, one + two)
                seen += one > 0 and two > 0
        self.assertGreater(seen, 10)

    def test_with_more_or_less(self):
        for rand, web, one, other in self.each(6, 200):
            t = times.within(web, one, other)
            if t is None:
                continue
            more = (tuple(range(len(web[2]))), other[1])
            fewer = ("web", web[1], tuple(tuple(move for move in moves if rand.random() < 0.7) for moves in web[2]))
            for told in (times.within(web, one, more), times.within(web, (one[0][1:], one[1]), other),
                         times.within(web, one, (other[0], other[1] + (("more",),))), times.within(fewer, one, other)):
                self.assertIsNotNone(told)
                self.assertLessEqual(told, t)

    def test_ages_are_waits(self):
        """[65] (T7): the age of smoke is how long its meeting has been open."""
        machine = machines.Machine(TEXT, ("world", ("lab",), (1,), (), 0))
        web = webs.web_of(machine)
        one = ((), (("smoke", "lab", "yes"),))
        other = (promises.places_where(machine, ("is", "smoke:lab", "no")), ())
        _, places = escapes.aged(machine, "lab", 3)
        yes = promises.places_where(machine, ("is", "smoke:lab", "yes"))
        for t in range(4):
            old = {at for at, age in places if age >= t and at in yes}
            came = {place for wait in range(t, 60) for place in marks.open_places(web, one, other, wait)}
            self.assertEqual(old, came)

    def test_machines(self):
        machine = machines.Machine(TEXT, WORLD)
        web = webs.web_of(machine)
        one = marks.mark_of(machine, ("is", "front", "free"), ())
        other = marks.mark_of(machine, ("is", "front", "shut"), (("smoke", "lab", "yes"),))
        t = times.within(web, one, other)
        self.assertEqual(t, plain_within(web, one, other))
        free, shut = marks.free_marks(machine, "front")
        self.assertEqual(times.within(web, shut, free), plain_within(web, shut, free))

    def test_largest(self):
        """All standings of a machine of four thousand, and four hundred ticks that go round among them."""
        machine = machines.Machine(four_thousand(False), helper.BUTTONS)
        web = webs.web_of(machine)
        one, other = ((0,), ()), ((), ())
        self.assertIsNone(times.within(web, one, other))
        self.assertIs(times.is_ring(web, one, other, times.ring(web, one, other)), True)
        walk, moment = times.late(web, one, other, 400)
        self.assertEqual((len(walk[1]), moment), (400, 0))
        timers = marks.mark_of(machine, ("running", "r"), ())
        stopped = marks.mark_of(machine, ("not", ("running", "r")), (("show", "guest", "door", 0),))
        self.assertEqual(times.within(web, timers, stopped), 4)
        clock = times.clock(web, timers, stopped)
        self.assertIs(times.is_clock(web, timers, stopped, clock), True)
        many = 20000
        ring = ("web", (0,), tuple(((("go",), None, None, (at + 1) % many),) for at in range(many)))
        self.assertEqual(times.within(ring, ((5,), ()), ((), ())), 1)
        self.assertEqual(times.late(ring, ((19999,), ()), ((), ()), 0)[1], 2 * 19999)

    def test_wrong(self):
        web = ("web", (0,), ((),))
        mark = ((), ())
        for value in helper.any_values():
            for call in (times.within, times.clock, times.ring):
                with self.assertRaises(errors.BadWeb):
                    call(value, value, value)
                with self.assertRaises(errors.BadMark):
                    call(web, mark, value)
            self.assertIs(times.is_ring(web, mark, mark, value), False)
            self.assertIs(times.is_clock(web, mark, mark, value), value == {} and type(value) is dict)
        with self.assertRaises(errors.BadMark):
            times.late(web, mark, None, None)
        self.assertEqual(put(web, (1,), (0,)), web)


if __name__ == "__main__":
    unittest.main()
