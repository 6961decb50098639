"""Lone alarms, against all sleepers of all ticks."""
import itertools
import unittest

import helper
from helper import seeded
from housekept import alarms, errors, lone
from test_wrong import WATCH


def plain_wait(watch, word, guards=None):
    """The longest wait of an alarm that is opened by itself, over all sleepers; None if it can be open for ever.

    Standings are those of [111], with ages cut as [110] lets them be.
    """
    longest = {}
    busy = set()

    def wait(standing, words):
        """How many ticks more the alarm can be open from here; raises if without end."""
        key = alarms.shortened(watch, standing)
        if not words and key in longest:
            return longest[key]
        if not words and key in busy:
            raise OverflowError
        busy.add(key)
        best = 0
        for many in range(watch[3] + 1):
            for lot in itertools.combinations(range(len(watch[2])), many):
                if all(0 <= standing[1][guard] < watch[2][guard][1] for guard in lot):
                    behind, answers, _ = alarms.watch_tick(watch, standing, words, lot)
                    if not answers:
                        best = max(best, 1 + wait(behind, ()))
        if not words:
            longest[key] = best
        return best

    try:
        return wait(((), guards or (0,) * len(watch[2])), (word,))
    except OverflowError:
        return None


def all_watches():
    """Watches of all sorts, small ones."""
    for many, way in itertools.product((1, 2, 3), ("keep", "pass")):
        for mosts in itertools.product(range(4), repeat=many):
            for hand, asleep in itertools.product((1, 2, 3), range(many + 1)):
                guards = tuple(("abc"[at], most) for at, most in enumerate(mosts))
                yield ("watch", ((2, 1, 4), (5, 2, hand)), guards, asleep, 2, way)


class Lone(unittest.TestCase):
    def test_against_all_sleepers(self):
        rand = seeded(1)
        seen = {None: 0, 0: 0, "more": 0}
        for watch in all_watches():
            if rand.random() < 0.5:
                wait = lone.lone_wait(watch, 5)
                self.assertEqual(wait, plain_wait(watch, 5), watch)
                seen[wait if wait in seen else "more"] += 1
        self.assertGreater(min(seen.values()), 40)

    def test_sleepers_ahead_make_no_wait_longer(self):
        rand = seeded(2)
        for watch in all_watches():
            if rand.random() < 0.1:
                wait = lone.lone_wait(watch, 5)
                for guards in itertools.product(*[range(most + 1) for _, most in watch[2]]):
                    told = plain_wait(watch, 5, guards)
                    self.assertTrue(wait is None or (told is not None and told <= wait))

    def test_sleepers(self):
        rand = seeded(3)
        for watch in all_watches():
            if rand.random() > 0.3:
                continue
            wait = lone.lone_wait(watch, 5)
            for ticks in (0, 1, 2, 5, 40):
                sleepers = lone.lone_sleepers(watch, 5, ticks)
                self.assertIs(sleepers is None, wait is not None and wait < ticks)
                if sleepers is None:
                    continue
                self.assertEqual(sleepers, [alarms.shown_to(watch, 5, age) for age in range(ticks)])
                rows = [((5,) if at == 0 else (), lot) for at, lot in enumerate(sleepers)]
                found, standing = alarms.watched(watch, rows)
                self.assertEqual([answers for answers, _ in found], [[]] * ticks)
                self.assertEqual(standing[0], ((5, ticks),) if ticks else ())

    def test_by_hand(self):
        watch = ("watch", ((3, 1, 2),), (("a", 4), ("b", 1), ("c", 0)), 3, 1, "keep")
        # Shown to a from 0, to b from 2, to c from 4 on: b cannot sleep at 3.
        self.assertEqual(lone.lone_wait(watch, 3), 3)
        self.assertEqual(lone.lone_sleepers(watch, 3, 3), [(0,), (0,), (0, 1)])
        self.assertIsNone(lone.lone_sleepers(watch, 3, 4))
        self.assertEqual(lone.lone_wait(watch[:3] + (1,) + watch[4:], 3), 2)
        self.assertEqual(lone.lone_wait(watch[:3] + (0,) + watch[4:], 3), 0)
        self.assertEqual(lone.lone_sleepers(watch[:3] + (0,) + watch[4:], 3, 0), [])
        self.assertIsNone(lone.lone_sleepers(watch[:3] + (0,) + watch[4:], 3, 1))
        passed = watch[:2] + ((("a", 4), ("b", 2)), 1, 1, "pass")
        self.assertIsNone(lone.lone_wait(passed, 3))
        self.assertEqual(lone.lone_sleepers(passed, 3, 5), [(0,), (0,), (1,), (1,), (0,)])
        self.assertEqual(len(lone.lone_sleepers(passed, 3, 40)), 40)
        self.assertEqual(lone.lone_wait(passed[:2] + ((("a", 4),),) + passed[3:], 3), 4)
        self.assertEqual(lone.lone_wait(passed[:2] + ((("a", 4), ("b", 1)),) + passed[3:], 3), 3)

    def test_wrong(self):
        for ticks in (-1, 41, True, None, "0"):
            with self.assertRaises(errors.BadTicks):
                lone.lone_sleepers(WATCH, 1, ticks)
        for word in (0, 10, -1, True, None, "1", (1,)):
            with self.assertRaises(errors.BadAlarm):
                lone.lone_wait(WATCH, word)
            with self.assertRaises(errors.BadAlarm):
                lone.lone_sleepers(WATCH, word, 41)
        for value in helper.any_values():
            with self.assertRaises(errors.BadWatch):
                lone.lone_wait(value, None)


if __name__ == "__main__":
    unittest.main()
