"""Seams and healing, against rows tried one by one and lots of standings followed tick by tick."""
import itertools
import unittest

from helper import PLAIN, SMALL, random_building, random_text, seeded
from housekept import errors, least, machines, seams

QUIET = ("world", (), (), (), 0)
LOOKS = [("doors",), ("endless",), ("words",), ("doors", "words"), ("doors", "endless", "words")]


def pairs_of_machines(seed, many, most=31):
    """Small machines of two random texts of one building."""
    rand = seeded(seed)
    found = 0
    while found < many:
        building = random_building(rand, 2, 1, 1)
        texts = [random_text(rand, building, 9, 2) for _ in range(2)]
        if rand.random() < 0.5:
            # Nearly the same text: a seam is rarer.
            texts[1] = texts[0][:5] + (texts[0][5] + texts[1][5][:1],)
        world = ("world", (), tuple(range(rand.randint(0, 2))), (), 0)
        try:
            one, other = [machines.Machine(text, world) for text in texts]
        except (errors.BadText, errors.TooLong, errors.TooMany):
            continue
        if len(one) <= most and len(other) <= most and len(other) > 1:
            found += 1
            yield rand, one, other


def led(machine, row, at=0):
    for signal in row:
        at = machine.after(at, signal)[0]
    return at


def second_beside(one, other):
    met, todo = {(0, 0)}, [(0, 0)]
    while todo:
        here, there = todo.pop()
        for signal in one.signals:
            pair = (one.after(here, signal)[0], other.after(there, signal)[0])
            if pair not in met:
                met.add(pair)
                todo.append(pair)
    return sorted(met)


def ticks_to_heal(other, looks, pair):
    """Behind how many ticks two standings are alike, following all pairs that rows with so many ticks lead to."""
    lots = least.classes(other, looks)
    lot, seen = {pair}, []
    for ticks in itertools.count():
        todo = list(lot)
        while todo:
            here, there = todo.pop()
            for signal in other.signals:
                if signal != ("tick",):
                    behind = (other.after(here, signal)[0], other.after(there, signal)[0])
                    if behind not in lot:
                        lot.add(behind)
                        todo.append(behind)
        if all(lots[here] == lots[there] for here, there in lot):
            return ticks
        if lot in seen:
            return None
        seen.append(set(lot))
        lot = {(other.after(here, ("tick",))[0], other.after(there, ("tick",))[0]) for here, there in lot}


class Beside(unittest.TestCase):
    def test_pairs(self):
        for _, one, other in pairs_of_machines(1, 60):
            self.assertEqual(seams.beside(one, other), second_beside(one, other))
            self.assertEqual(seams.beside(one, one), [(at, at) for at in range(len(one))])

    def test_just_a_thousand(self):
        """Two toggles of unlike buttons: standings of one and of other are beside one another in all ways."""
        def clock(timers, most, buttons):
            made = [(("button", at), ("always",), (("start", name, most),)) for at, name in zip(buttons, timers)]
            return ("text", SMALL, (), tuple((name, most) for name in timers), (), tuple(made))
        world = ("world", (), (0, 1, 2), (), 0)
        one = machines.Machine(clock("rs", 4, (0, 1)), world)
        self.assertEqual(len(one), 25)
        other = machines.Machine(clock("t", 12, (2,)), world)
        self.assertEqual(len(seams.beside(one, other)), 25 * 13)
        wide = machines.Machine(clock("rs", 7, (0, 1)), world)
        narrow = machines.Machine(clock("t", 11, (2,)), world)
        # 8 * 8 * 12 = 768 pairs are let; 8 * 8 * 16 and more are not.
        self.assertEqual(len(seams.beside(wide, narrow)), 768)
        wider = machines.Machine(clock("rs", 9, (0, 1)), world)
        nine = machines.Machine(clock("t", 9, (2,)), world)
        self.assertEqual(len(seams.beside(wider, nine)), 1000)
        for call in (seams.beside, lambda a, b: seams.seam(a, b, ("doors",))):
            with self.assertRaises(errors.TooMany) as caught:
                call(wider, narrow)
            self.assertEqual(caught.exception.most, 1000)


class Seam(unittest.TestCase):
    def test_against_all_short_rows(self):
        seen = {"seam": 0, "seamless": 0}
        for rand, one, other in pairs_of_machines(2, 150):
            looks = rand.choice(LOOKS)
            lots = least.classes(other, looks)
            found = seams.seam(one, other, looks)
            seen[found[0]] += 1
            rows = [row for size in range(4) for row in itertools.product(one.signals, repeat=size)]
            ends = [(led(one, row), led(other, row), row) for row in rows]
            if found[0] == "seamless":
                to = found[1]
                self.assertEqual(to, tuple(led(other, machines.way(one, at)) for at in range(len(one))))
                self.assertTrue(all(lots[there] == lots[to[here]] for here, there in second_beside(one, other)))
                continue
            _, first, second, rest = found
            self.assertEqual(led(one, first), led(one, second))
            here, there = led(other, first), led(other, second)
            start = [machines.Machine(other.text, other.world, start=other.standing(at)) for at in (here, there)]
            self.assertEqual(rest, least.alike(start[0], start[1], looks))
            self.assertIsNotNone(rest)
            if len(first) + len(second) <= 3:
                order = {signal: at for at, signal in enumerate(one.signals)}
                by_old = {}
                for old, new, row in ends:
                    by_old.setdefault(old, []).append((new, row))
                best = min((len(row) + len(rest_row), len(row), [order[signal] for signal in row], len(rest_row),
                            [order[signal] for signal in rest_row])
                           for lot in by_old.values() for new, row in lot for other_new, rest_row in lot
                           if len(row) + len(rest_row) <= 3 and lots[new] != lots[other_new])
                self.assertEqual((best[2], best[4]), ([order[one] for one in first], [order[one] for one in second]))
        self.assertGreater(min(seen.values()), 15)

    def test_by_hand(self):
        """The old text forgets that the button came; the new one says 1 for it at the next tick."""
        new = ("text", SMALL, (("flag", ("no", "yes")),), (), (),
               ((("button", 0), ("always",), (("let", "flag", "yes"),)),
                (("tick",), ("is", "flag", "yes"), (("say", 1), ("let", "flag", "no")))))
        old = new[:2] + ((), (), (), ((("button", 5), ("always",), ()),))
        world = ("world", (), (0,), (), 0)
        one, other = machines.Machine(old, world), machines.Machine(new, world)
        button, tick = ("button", 0), ("tick",)
        self.assertEqual(seams.seam(one, other, ("words",)), ("seam", [], [button], [tick]))
        self.assertEqual(seams.seam(one, other, ("doors",)), ("seamless", (0,)))
        self.assertEqual(seams.seam(other, one, ("words",)), ("seamless", (0, 0)))
        self.assertEqual(seams.beside(one, other), [(0, 0), (0, 1)])
        self.assertEqual(seams.healing(one, other, ("words",), (0,)), 1)
        self.assertEqual(seams.healing(one, other, ("doors",), (1,)), 0)
        self.assertEqual(seams.best_passage(one, other, ("words",)), (0,))
        self.assertIsNone(seams.never_heals(one, other, ("words",), (1,)))

    def test_never(self):
        """What nothing takes back is never healed."""
        new = ("text", SMALL, (("flag", ("no", "yes")),), (), (),
               ((("button", 0), ("always",), (("let", "flag", "yes"),)), (("tick",), ("is", "flag", "yes"), (("say", 1),))))
        old = new[:2] + ((), (), (), ((("button", 5), ("always",), ()),))
        # The button is there for the one row alone: the new text keeps what it has.
        world = ("world", (), (0,), (), 0)
        one, other = machines.Machine(old, world), machines.Machine(new, world)
        self.assertIsNone(seams.healing(one, other, ("words",), (0,)))
        self.assertIsNone(seams.best_passage(one, other, ("words",)))
        row, behind, ring = seams.never_heals(one, other, ("words",), (0,))
        self.assertIn(("tick",), ring)
        self.assertEqual(led(other, row), 1)
        self.assertNotIn(("button", 0), behind + ring)


class Healing(unittest.TestCase):
    def test_against_ticks_one_by_one(self):
        seen = {}
        for rand, one, other in pairs_of_machines(3, 120, 12):
            looks = rand.choice(LOOKS)
            beside = second_beside(one, other)
            healed = {(here, there): ticks_to_heal(other, looks, (here, there))
                      for here in range(len(other)) for there in range(len(other))}
            for _ in range(3):
                to = tuple(rand.randrange(len(other)) for _ in range(len(one)))
                found = [healed[to[here], there] for here, there in beside]
                want = None if None in found else max(found)
                seen[want] = seen.get(want, 0) + 1
                self.assertEqual(seams.healing(one, other, looks, to), want)
                self.check_never(one, other, looks, to, want)
            best = []
            for here in range(len(one)):
                tried = [[healed[at, there] for old, there in beside if old == here] for at in range(len(other))]
                sure = [(max(lot), at) for at, lot in enumerate(tried) if None not in lot]
                best.append(min(sure)[1] if sure else None)
            self.assertEqual(seams.best_passage(one, other, looks), None if None in best else tuple(best))
        self.assertTrue({None, 0, 1} <= set(seen), seen)

    def test_a_timer_heals_by_its_ticks(self):
        for most in (1, 3, 12):
            new = ("text", SMALL, (), (("t", most),), (),
                   ((("button", 0), ("always",), (("start", "t", most),)), (("ran", "t"), ("always",), (("say", 1),))))
            old = new[:3] + ((), (), ((("button", 5), ("always",), ()),))
            world = ("world", (), (0,), (), 0)
            one, other = machines.Machine(old, world), machines.Machine(new, world)
            self.assertEqual(seams.healing(one, other, ("words",), (0,)), most)
            # From where it has just been started all others are alike as late, or sooner.
            self.assertEqual(seams.healing(one, other, ("words",), (1,)), most)
            self.assertEqual(seams.best_passage(one, other, ("words",)), (0,))

    def check_never(self, one, other, looks, to, want):
        shown = seams.never_heals(one, other, looks, to)
        if want is not None:
            self.assertIsNone(shown)
            return
        row, behind, ring = shown
        lots = least.classes(other, looks)
        at = [to[led(one, row)], led(other, row)]
        self.assertNotEqual(lots[at[0]], lots[at[1]])
        for signal in behind:
            at = [other.after(here, signal)[0] for here in at]
        turn = list(at)
        self.assertIn(("tick",), ring)
        for signal in ring:
            at = [other.after(here, signal)[0] for here in at]
            self.assertNotEqual(lots[at[0]], lots[at[1]])
        self.assertEqual(at, turn)

    def test_thirty_one_standings_and_more(self):
        def counted(most, cap):
            made = ((("button", 0), ("always",), (("more", "k"), ("start", "t", most))),
                    (("button", 1), ("always",), (("more", "m"), ("say", 1))))
            return ("text", SMALL, (), (("t", most),), (("k", 1), ("m", cap)), made)
        world = ("world", (), (0, 1), (), 0)
        one = machines.Machine(PLAIN, world)
        for most, cap, many in [(8, 2, 30), (4, 5, 36), (9, 2, 33)]:
            other = machines.Machine(counted(most, cap), world)
            self.assertEqual(len(other), many)
        found = {}
        for most in range(1, 13):
            for cap in range(1, 6):
                machine = machines.Machine(counted(most, cap), world)
                found.setdefault(len(machine), machine)
        self.assertIn(32, found)
        thirty_one = self.with_standings(31, world)
        self.assertEqual(seams.healing(one, thirty_one, ("doors",), (0,) * len(one)), 0)
        seams.best_passage(one, thirty_one, ("words",))
        for call in (lambda: seams.healing(one, found[32], ("doors",), (0,) * len(one)),
                     lambda: seams.never_heals(one, found[32], ("doors",), (0,) * len(one)),
                     lambda: seams.best_passage(one, found[32], ("doors",))):
            with self.assertRaises(errors.TooMany) as caught:
                call()
            self.assertEqual(caught.exception.most, 1000)
        with self.assertRaises(errors.BadTo):
            seams.healing(one, found[32], ("doors",), ())
        seams.seam(one, found[32], ("doors",))

    def with_standings(self, many, world):
        """A text that counts as many standings by a button, and stays at the last one."""
        made = []
        values = ("a", "b", "c", "d")
        for at in range(many - 1):
            now = [("is", "xyz"[place], values[at >> 2 * place & 3]) for place in range(3)]
            new = [("let", "xyz"[place], values[at + 1 >> 2 * place & 3]) for place in range(3)]
            made.append((("button", 0), ("both", now[0], ("both", now[1], now[2])), tuple(new)))
        text = ("text", SMALL, tuple((name, values) for name in "xyz"), (), (), tuple(made))
        machine = machines.Machine(text, world)
        self.assertEqual(len(machine), many)
        return machine


class Errors(unittest.TestCase):
    def test_order(self):
        one = machines.Machine(PLAIN, QUIET)
        more = machines.Machine(PLAIN, ("world", (), (0,), (), 0))
        for call, rest in [(seams.beside, []), (seams.seam, [None]), (seams.healing, [None, None]),
                           (seams.never_heals, [None, None]), (seams.best_passage, [None])]:
            with self.assertRaises(errors.BadMachine):
                call(None, None, *rest)
            with self.assertRaises(errors.BadMachine):
                call(one, one.text, *rest)
            # The signals tell of the two machines, so they come ahead of what stands behind these.
            with self.assertRaises(errors.UnlikeSignals):
                call(one, more, *rest)
        for call, rest in [(seams.seam, []), (seams.healing, [None]), (seams.never_heals, [None]), (seams.best_passage, [])]:
            with self.assertRaises(errors.BadLooks):
                call(one, one, ("words", "doors"), *rest)
        many = len(one)
        for to in [None, [0] * many, (0,) * (many - 1), (0,) * (many + 1), (many,) + (0,) * (many - 1),
                   (True,) + (0,) * (many - 1), (-1,) + (0,) * (many - 1), (None,) * many]:
            for call in (seams.healing, seams.never_heals):
                with self.assertRaises(errors.BadTo):
                    call(one, one, ("doors",), to)


if __name__ == "__main__":
    unittest.main()
