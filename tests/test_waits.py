"""Waits and spans, against all walks up to some length and against open places tick by tick."""
import itertools
import unittest

import helper
from helper import BUTTONS, four_thousand, seeded
from housekept import errors, machines, marks, spans, times, waits, webs
from test_marks import TICK, meets, random_mark, random_web, ticks, walks
from test_times import FirstMeetings, first_of


def answered(walk, one, other):
    """The (moment, answer, wait) of the answered meetings of a walk."""
    end = 2 * len(walk[1])
    for moment in range(end + 1):
        if meets(walk, moment, one):
            later = [at for at in range(moment, end + 1) if meets(walk, at, other)]
            if later:
                yield moment, later[0], ticks(walk, moment, later[0])


def is_plain_delay(web, one, other, t, value):
    """[63] rule by rule, of dicts of wholes."""
    starts = marks.starts(web, one, other)
    if not all(place in value and value[place] == 0 for place in starts):
        return False
    for place, wait in value.items():
        for label, _, _, behind in web[2][place]:
            more = wait + (label == TICK)
            if label in other[1] or behind in other[0]:
                if more < t:
                    return False
            elif behind not in value or value[behind] > more:
                return False
    at_once = any(wait == 0 and answer - moment <= moment % 2 for walk in walks(web, 4) for moment, answer, wait in answered(walk, one, other))
    return t == 0 or not at_once


class Waits(unittest.TestCase):
    def each(self, seed, many, size=4, share=0.25):
        rand = seeded(seed)
        for _ in range(many):
            web = random_web(rand, rand.randint(1, size))
            yield rand, web, random_mark(rand, len(web[2]), 0.3), random_mark(rand, len(web[2]), share)

    def test_soonest_and_soon(self):
        seen = {None: 0, 0: 0, "more": 0}
        for _, web, one, other in self.each(1, 260):
            found = {}
            for walk in walks(web, 6):
                for moment, answer, wait in answered(walk, one, other):
                    if answer >= 2 * len(walk[1]) - 1:
                        found.setdefault(wait, []).append((walk, moment))
            least = waits.soonest(web, one, other)
            soon = waits.soon(web, one, other)
            self.assertIs(soon is None, least is None)
            if found:
                self.assertIsNotNone(least)
                self.assertLessEqual(least, min(found))
            if soon is not None and len(soon[0][1]) <= 6:
                self.assertEqual(least, min(found))
                self.assertEqual(soon, first_of(web, found[least]))
            seen[least if least in seen else "more"] += 1
        self.assertGreater(min(seen.values()), 8, seen)

    def test_soon_against_a_search(self):
        """Greater waits and longer walks, against a search with all waits at all places."""
        rand = seeded(9)
        long = 0
        for _ in range(300):
            size = rand.randint(3, 9)
            web = random_web(rand, size)
            one, other = ((rand.randrange(size),), ()), ((rand.randrange(size),), ())
            least = waits.soonest(web, one, other)
            if least is not None:
                walk = FirstMeetings(web, one, other, least).search(lambda _, done: done >> least & 1)
                self.assertEqual(waits.soon(web, one, other)[0], walk)
                long += least > 0 and len(walk[1]) > least
        self.assertGreater(long, 10)

    def test_delays(self):
        """There is a delay for t exactly if no meeting is answered sooner."""
        seen = {True: 0, False: 0}
        for rand, web, one, other in self.each(2, 200):
            least = waits.soonest(web, one, other)
            for t in (0, 1, 2, 3, 400):
                delay = waits.delay(web, one, other, t)
                self.assertIs(delay is None, least is not None and least < t)
                seen[delay is None] += 1
                if delay is None:
                    continue
                self.assertIs(waits.is_delay(web, one, other, t, delay), True)
                for place in delay:
                    for new in ({**delay, place: delay[place] + 1}, {key: delay[key] for key in delay if key != place},
                                {**delay, place: max(0, delay[place] - 1)}):
                        self.assertIs(waits.is_delay(web, one, other, t, new), is_plain_delay(web, one, other, t, new))
                self.assertIs(waits.is_delay(web, one, other, t, {**delay, len(web[2]): 0}), False)
                self.assertIs(waits.is_delay(web, one, other, t, {**delay, -1: 0}), False)
            value = {place: rand.randint(0, 2) for place in range(len(web[2])) if rand.random() < 0.8}
            for t in (0, 1, 2):
                self.assertIs(waits.is_delay(web, one, other, t, value), is_plain_delay(web, one, other, t, value))
        self.assertGreater(min(seen.values()), 100)

    def test_by_hand(self):
        # 0 -a-> 1 -tick-> 2 -b-> 0, and 1 -tick-> 3 -tick-> 2.
        web = ("web", (0,), (((("a",), None, None, 1),), ((TICK, None, None, 2), (TICK, None, None, 3)), ((("b",), None, None, 0),),
                             ((TICK, None, None, 2),)))
        one, other = ((), (("a",),)), ((), (("b",),))
        self.assertEqual(waits.soonest(web, one, other), 1)
        self.assertEqual(waits.soon(web, one, other), ((0, ((("a",), 1), (TICK, 2), (("b",), 0))), 1))
        self.assertIsNone(waits.delay(web, one, other, 2))
        self.assertIs(waits.is_delay(web, one, other, 1, {1: 0, 2: 1, 3: 1}), True)
        self.assertIs(waits.is_delay(web, one, other, 1, {1: 0, 2: 2, 3: 1}), False)
        self.assertIs(waits.is_delay(web, one, other, 1, {1: 0, 2: 0, 3: 1}), False)
        self.assertIs(waits.is_delay(web, one, other, 0, {1: 0, 2: 0, 3: 0}), True)
        for wrong in ({1: 1, 2: 1, 3: 1}, {True: 0, 2: 1, 3: 1}, {1: False, 2: 1, 3: 1}, {1: 0, 2: "1", 3: 1}, {2: 1, 3: 1}, [1, 2], None):
            self.assertIs(waits.is_delay(web, one, other, 1, wrong), False)
        # A tick that answers counts itself.
        self.assertEqual(waits.soonest(web, one, ((), (TICK,))), 1)
        self.assertEqual(waits.soon(web, one, ((), (TICK,)))[0][1], ((("a",), 1), (TICK, 2)))
        # Answered in its own moment, or by the place behind its move.
        self.assertEqual((waits.soonest(web, one, one), waits.soonest(web, one, ((1,), ()))), (0, 0))
        self.assertEqual(waits.soon(web, one, one), ((0, ((("a",), 1),)), 1))
        self.assertEqual(waits.soon(web, ((0,), ()), ((0,), ())), ((0, ()), 0))
        self.assertIsNone(waits.delay(web, one, ((1,), ()), 1))
        self.assertIs(waits.is_delay(web, one, ((1,), ()), 1, {}), False)
        self.assertIs(waits.is_delay(web, one, ((1,), ()), 0, {}), True)
        self.assertIsNone(waits.soonest(web, ((), ()), other))
        self.assertEqual(waits.delay(web, ((), ()), other, 400), {})

    def test_wrong(self):
        web, mark = ("web", (0,), ((),)), ((), ())
        for t in (-1, 401, True, None, "0"):
            with self.assertRaises(errors.BadTicks):
                waits.delay(web, mark, mark, t)
            with self.assertRaises(errors.BadTicks):
                waits.is_delay(web, mark, mark, t, None)
        for value in helper.any_values():
            for call in (waits.soonest, waits.soon, spans.spans):
                with self.assertRaises(errors.BadWeb):
                    call(value, None, None)
                with self.assertRaises(errors.BadMark):
                    call(web, value, None)
                with self.assertRaises(errors.BadMark):
                    call(web, mark, value)


def ticking_web(rand, size):
    """A tick from each place, and from some a move that answers."""
    rows = []
    for at in range(size):
        row = [(TICK, None, None, (at + 1) % size if rand.random() < 0.8 else rand.randrange(size))]
        if rand.random() < 0.3:
            row.append((("b", 1), None, None, rand.randrange(size)))
        rows.append(tuple(row))
    return ("web", (0,), tuple(rows))


class Spans(unittest.TestCase):
    def told(self, found, t):
        head, turn = found
        return head[t] if t < len(head) else turn[(t - len(head)) % len(turn)]

    def test_against_walks(self):
        rand = seeded(3)
        for _ in range(120):
            web = random_web(rand, rand.randint(1, 4))
            one, other = random_mark(rand, len(web[2])), random_mark(rand, len(web[2]), 0.25)
            found = spans.spans(web, one, other)
            truths = [self.told(found, t) for t in range(4)]
            came = {wait for walk in walks(web, 6) for _, _, wait in answered(walk, one, other)}
            for t in range(4):
                if t in came:
                    self.assertIs(truths[t], True)
                elif truths[t] and len(web[2]) < 4:
                    self.assertTrue(any(wait == t for walk in walks(web, 9) for _, _, wait in answered(walk, one, other)))
            least = waits.soonest(web, one, other)
            rows = [t for t in range(500) if self.told(found, t)]
            self.assertEqual(least, rows[0] if rows else None)

    def test_against_open_places(self):
        """Which waits are answered, tick by tick, and no shorter head or turn that tells the same."""
        rand = seeded(4)
        turns = 0
        for _ in range(300):
            size = rand.randint(2, 9)
            web, one, other = random_web(rand, size), random_mark(rand, size, 0.15), random_mark(rand, size, 0.12)
            if rand.random() < 0.6:
                web, one, other = ticking_web(rand, size), ((rand.randrange(size),), ()), ((), (("b", 1),))
            truths = []
            ahead = ()
            once = waits.Answers(web, one, other).at_once
            for t in range(120):
                here = marks.open_places(web, one, other, t)
                quiet = [(label, behind) for place in here for label, _, _, behind in web[2][place] if label != TICK]
                late = [(label, behind) for place in ahead for label, _, _, behind in web[2][place] if label == TICK]
                truths.append(any(label in other[1] or behind in other[0] for label, behind in quiet + late) or (t == 0 and once))
                ahead = here
            head, turn = spans.spans(web, one, other)
            self.assertTrue(turn)
            self.assertEqual([self.told((head, turn), t) for t in range(120)], truths)
            if len(head) + 2 * len(turn) < 60:
                self.assertEqual((len(head), len(turn)), self.shortest(truths))
            turns += len(turn) > 1
        self.assertGreater(turns, 10)

    def shortest(self, truths):
        """The shortest head, then the shortest turn, of truths that come again."""
        for head in range(60):
            for turn in range(1, 60):
                if all(truths[t] == truths[t + turn] for t in range(head, len(truths) - turn)):
                    return head, turn

    def test_by_hand(self):
        ring = ("web", (0,), (((TICK, None, None, 1), (("b",), None, None, 0)), ((TICK, None, None, 2),), ((TICK, None, None, 0),)))
        self.assertEqual(spans.spans(ring, ((0,), ()), ((), (("b",),))), ((), (True, False, False)))
        self.assertEqual(spans.spans(ring, ((1,), ()), ((), (("b",),))), ((), (False, False, True)))
        self.assertEqual(spans.spans(ring, ((0,), ()), ((), ())), ((), (False,)))
        self.assertEqual(spans.spans(ring, ((), ()), ((0,), ())), ((), (False,)))
        self.assertEqual(spans.spans(ring, ((0,), ()), ((0,), ())), ((True,), (False,)))
        self.assertEqual(spans.spans(ring, ((0,), ()), ((2,), ())), ((False, False, True), (False,)))

    def two_rings(self, one, other):
        """Two rings of ticks with so many places: they are open together as often as their lengths let them."""
        rows = [((TICK, None, None, (at + 1) % one),) for at in range(one)]
        rows += [((TICK, None, None, one + (at + 1) % other),) for at in range(other)]
        return ("web", (0, one), tuple(rows))

    def test_four_hundred_lots(self):
        web = self.two_rings(20, 20)
        self.assertEqual(spans.spans(web, ((0, 20), ()), ((), ())), ((), (False,)))
        web = self.two_rings(25, 16)
        head, turn = spans.spans(web, ((0, 25), ()), ((), ()))
        self.assertEqual((head, turn), ((), (False,)))
        lots = {marks.open_places(web, ((0, 25), ()), ((), ()), t) for t in range(401)}
        self.assertEqual(len(lots), 400)
        many = 401
        ring = ("web", (0,), tuple(((TICK, None, None, (at + 1) % many),) for at in range(many)))
        lots = {marks.open_places(ring, ((0,), ()), ((), ()), t) for t in range(401)}
        self.assertEqual(len(lots), 401)
        with self.assertRaises(errors.TooLong) as caught:
            spans.spans(ring, ((0,), ()), ((), ()))
        self.assertEqual(caught.exception.most, 400)
        # 400 unlike lots, the last of which is empty.
        row = ("web", (0,), tuple(((TICK, None, None, at + 1),) for at in range(398)) + ((),))
        self.assertEqual(spans.spans(row, ((0,), ()), ((398,), ())), ((False,) * 398 + (True,), (False,)))
        row = ("web", (0,), tuple(((TICK, None, None, at + 1),) for at in range(400)) + ((),))
        with self.assertRaises(errors.TooLong):
            spans.spans(row, ((0,), ()), ((), ()))

    def test_largest(self):
        machine = machines.Machine(four_thousand(False), BUTTONS)
        web = webs.web_of(machine)
        one = marks.mark_of(machine, ("running", "r"), ())
        other = marks.mark_of(machine, ("not", ("running", "r")), ())
        self.assertEqual(waits.soonest(web, one, other), 1)
        self.assertEqual(spans.spans(web, one, other), ((False,), (True,)))
        self.assertEqual(len(waits.soon(web, one, other)[0][1]), 5)
        self.assertIs(waits.is_delay(web, one, other, 1, waits.delay(web, one, other, 1)), True)
        self.assertIsNone(times.within(web, one, other))
        self.assertEqual(len(list(itertools.islice(walks(web, 1), 5))), 5)


if __name__ == "__main__":
    unittest.main()
