"""[110], [111]: watches."""
import itertools
import unittest

from helper import put, seeded
from housekept import alarms, errors

KEEP = ("watch", ((1, 1, 2), (4, 3, 1), (7, 3, 2)), (("ann", 2), ("bob", 0), ("cem", 4)), 2, 2, "keep")
PASS = KEEP[:5] + ("pass",)


def slow_tick(watch, standing, words, sleepers):
    """A tick, as [111] tells it line by line."""
    rows = {word: (rank, hand) for word, rank, hand in watch[1]}
    waiting, guards = [list(pair) for pair in standing[0]], list(standing[1])
    folded, answers = [], []
    for word in words:
        if word in rows:
            if any(pair[0] == word for pair in waiting):
                folded.append(word)
            else:
                waiting.append([word, 0])
    free = [guard for guard in range(len(guards)) if guard not in sleepers and guards[guard] >= 0]
    for guard in free:
        seen = [pair for pair in waiting if guard in slow_shown(watch, *pair)]
        if seen:
            best = max(rows[pair[0]][0] for pair in seen)
            taken = [pair for pair in seen if rows[pair[0]][0] == best][0]
            waiting.remove(taken)
            answers.append((taken[0], guard, taken[1]))
    busy = [guard for _, guard, _ in answers]
    for guard in range(len(guards)):
        if guard not in free:
            guards[guard] += 1
        else:
            guards[guard] = 1 - watch[4] if guard in busy else 0
    return ((tuple((word, age + 1) for word, age in waiting), tuple(guards)), answers, folded)


def slow_shown(watch, word, age):
    hand = {row[0]: row[2] for row in watch[1]}[word]
    many = len(watch[2])
    if watch[5] == "keep":
        return tuple(guard for guard in range(many) if guard * hand <= age)
    return ((age // hand) % many,)


class Watches(unittest.TestCase):
    def test_right_and_wrong_watches(self):
        for value in (KEEP, PASS, ("watch", ((0, 1, 1),), (("a", 0),), 0, 1, "keep"), put(KEEP, (3,), 3), put(KEEP, (4,), 3)):
            self.assertIs(alarms.is_watch(value), True)
        for path, new in [((0,), "wach"), ((1,), ()), ((1,), KEEP[1] + ((9, 1, 1),)), ((1, 0, 0), 4), ((1, 0, 0), 5),
                          ((1, 2, 0), 10), ((1, 0, 0), -1), ((1, 0, 1), 0), ((1, 0, 1), 4), ((1, 0, 2), 0), ((1, 0, 2), 5),
                          ((1, 0, 0), True), ((1, 0), (1, 1)), ((2,), ()), ((2,), KEEP[2] + (("dan", 1),)), ((2, 0, 0), "bob"),
                          ((2, 0, 0), "any"), ((2, 0, 1), 5), ((2, 0, 1), -1), ((3,), 4), ((3,), -1), ((3,), True), ((4,), 0),
                          ((4,), 4), ((5,), "hand"), ((5,), None)]:
            self.assertIs(alarms.is_watch(put(KEEP, path, new)), False, (path, new))
        self.assertIs(alarms.is_watch(("watch", KEEP[1], (), 0, 1, "keep")), False)

    def test_shown_to(self):
        self.assertEqual([alarms.shown_to(KEEP, 1, age) for age in (0, 1, 2, 3, 4, 5, 10 ** 99)],
                         [(0,), (0,), (0, 1), (0, 1), (0, 1, 2), (0, 1, 2), (0, 1, 2)])
        self.assertEqual([alarms.shown_to(PASS, 1, age) for age in range(8)],
                         [(0,), (0,), (1,), (1,), (2,), (2,), (0,), (0,)])
        self.assertEqual([alarms.shown_to(PASS, 4, age) for age in range(4)], [(0,), (1,), (2,), (0,)])
        for word in (0, 10, True, None, "1"):
            with self.assertRaises(errors.BadAlarm):
                alarms.shown_to(KEEP, word, 0)
        for age in (-1, True, None):
            with self.assertRaises(errors.BadTicks):
                alarms.shown_to(KEEP, 1, age)

    def test_tick_by_hand(self):
        # 4 and 7 open behind 1, which is folded; ann answers 4 (shown first of rank 3), cem sees only 1.
        standing = (((1, 4),), (0, -1, 3))
        self.assertEqual(alarms.watch_tick(KEEP, standing, (1, 4, 5, 7), ()),
                         ((((7, 1),), (-1, 0, -1)), [(4, 0, 0), (1, 2, 4)], [1]))
        self.assertEqual(alarms.watch_tick(KEEP, standing, (4,), (0, 2)), ((((1, 5), (4, 1)), (1, 0, 4)), [], []))

    def test_nobody_awake_sees_it(self):
        standing = (((1, 2),), (0, 0, 0))
        self.assertEqual(alarms.watch_tick(PASS, standing, (), ()), (((), (0, -1, 0)), [(1, 1, 2)], []))
        self.assertEqual(alarms.watch_tick(PASS, put(standing, (0, 0, 1), 0), (), (0,)), ((((1, 1),), (1, 0, 0)), [], []))

    def test_of_equal_ranks_the_first(self):
        for waiting, word in ((((4, 0), (7, 0)), 4), (((7, 0), (4, 0)), 7), (((1, 9), (7, 0), (4, 9)), 7)):
            answers = alarms.watch_tick(KEEP, (waiting, (0, -1, -1)), (), ())[1]
            self.assertEqual(answers, [(word, 0, dict(waiting)[word])])

    def test_busy_for_one_tick_is_awake_at_once(self):
        quick = put(KEEP, (4,), 1)
        self.assertEqual(alarms.watch_tick(quick, ((), (0, 0, 0)), (1,), ()), (((), (0, 0, 0)), [(1, 0, 0)], []))
        slow = put(KEEP, (4,), 3)
        self.assertEqual(alarms.watch_tick(slow, ((), (0, 0, 0)), (1,), ())[0], ((), (-2, 0, 0)))

    def test_wrong_standings(self):
        for standing in (((), (0, 0)), ((), (-2, 0, 0)), ((), (3, 0, 0)), ((), (0, 1, 0)), ((), (0, 0, 5)), ((), [0, 0, 0]),
                         (((0, 1),), (0, 0, 0)), (((1, 1), (1, 2)), (0, 0, 0)), (((1, -1),), (0, 0, 0)), ((), (False, 0, 0)),
                         (((1, True),), (0, 0, 0)), ([], (0, 0, 0)), (((1,),), (0, 0, 0)), ((), (0, 0, 0), ())):
            for call in (lambda one: alarms.shortened(KEEP, one), lambda one: alarms.watch_tick(KEEP, one, (), ())):
                with self.assertRaises(errors.BadStanding):
                    call(standing)

    def test_wrong_words_and_sleepers(self):
        quiet = ((), (0, 0, 0))
        for words in ((1, 1), (4, 1), (10,), (-1,), (True,), [1], 1, None):
            with self.assertRaises(errors.BadWords):
                alarms.watch_tick(KEEP, quiet, words, None)
        for standing, sleepers in ((quiet, (1,)), (quiet, (2, 0)), (quiet, (0, 0)), (quiet, (3,)), (quiet, (-1,)), (quiet, [0]),
                                   (quiet, (False,)), (((), (2, 0, 0)), (0,)), (((), (-1, 0, 0)), (0,)),
                                   (((), (0, 0, 4)), (0, 2)), (quiet, None)):
            with self.assertRaises(errors.BadSleepers):
                alarms.watch_tick(KEEP, standing, (), sleepers)
        one = put(KEEP, (3,), 1)
        with self.assertRaises(errors.BadSleepers):
            alarms.watch_tick(one, quiet, (), (0, 2))
        self.assertEqual(alarms.watch_tick(KEEP, quiet, (), (0, 2))[0], ((), (1, 0, 1)))

    def test_watched(self):
        self.assertEqual(alarms.watched(KEEP, []), ([], ((), (0, 0, 0))))
        ticks = [((1, 4), (0,)), ((), (0, 2)), ((4,), ()), ((3,), ())]
        self.assertEqual(alarms.watched(KEEP, ticks),
                         ([([], []), ([(4, 1, 1)], []), ([(4, 0, 0)], []), ([(1, 1, 3)], [])],
                          ((), (0, -1, 0))))
        for wrong, at in [(None, 0), ({}, 0), ([((1, 4), (1,))], 0), (ticks[:2] + [((4,), (0,))], 2), ([((), ()), ()], 1),
                          ([((), ()), [(), ()]], 1), ([((), ()), ((), ()), ((1, 1), ())], 2),
                          ([((),)], 0), ([((), (), ())], 0), ([()], 0), (ticks + [None, None], 4)]:
            with self.assertRaises(errors.BadTick) as caught:
                alarms.watched(KEEP, wrong)
            self.assertEqual(caught.exception.at, at)

    def test_shortened(self):
        standing = (((7, 9), (1, 3), (4, 2)), (1, 0, -1))
        self.assertEqual(alarms.shortened(KEEP, standing), (((7, 4), (1, 3), (4, 2)), (1, 0, -1)))
        self.assertEqual(alarms.shortened(PASS, standing), (((7, 3), (1, 3), (4, 2)), (1, 0, -1)))
        self.assertEqual(alarms.shortened(PASS, (((4, 3), (1, 6)), (0, 0, 0)))[0], ((4, 0), (1, 0)))
        self.assertEqual(alarms.shortened(KEEP, (((1, 10 ** 99),), (0, 0, 0)))[0], ((1, 4),))

    def test_against_a_plain_second_way(self):
        for seed in range(200):
            rand = seeded(seed)
            many = rand.randint(1, 3)
            words = sorted(rand.sample(range(10), rand.randint(1, 3)))
            watch = ("watch", tuple((word, rand.randint(1, 3), rand.randint(1, 4)) for word in words),
                     tuple((name, rand.randint(0, 4)) for name in ("ann", "bob", "cem")[:many]), rand.randint(0, many),
                     rand.randint(1, 3), rand.choice(["keep", "pass"]))
            self.assertIs(alarms.is_watch(watch), True)
            standing, ticks, found = ((), (0,) * many), [], []
            for _ in range(12):
                lots = [lot for size in range(watch[3] + 1) for lot in itertools.combinations(range(many), size)
                        if all(0 <= standing[1][guard] < watch[2][guard][1] for guard in lot)]
                tick = (tuple(sorted(rand.sample(range(10), rand.randint(0, 6)))), rand.choice(lots))
                behind = slow_tick(watch, standing, *tick)
                self.assertEqual(alarms.watch_tick(watch, standing, *tick), behind)
                short = alarms.shortened(watch, standing)
                moved = alarms.watch_tick(watch, short, *tick)
                self.assertEqual([row[:2] for row in moved[1]], [row[:2] for row in behind[1]])
                self.assertEqual(alarms.shortened(watch, moved[0]), alarms.shortened(watch, behind[0]))
                for word, age in standing[0]:
                    self.assertEqual(alarms.shown_to(watch, word, age), slow_shown(watch, word, age))
                ticks.append(tick)
                found.append(behind[1:])
                standing = behind[0]
            self.assertEqual(alarms.watched(watch, ticks), (found, standing))


if __name__ == "__main__":
    unittest.main()
