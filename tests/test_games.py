"""A person against all others, against plays worked out turn by turn."""
import functools
import itertools
import unittest

import helper
from helper import BUTTONS, HOUSE, SMALL, all_of, four_thousand, random_building, random_text, random_world, seeded
from housekept import errors, games, machines, rules

QUIET = ("world", (), (), (), 0)


class Play:
    """[52] by its words: all rows of the others, all that own deeds lead to."""

    def __init__(self, machine, kind, hindrance):
        self.machine, self.kind, self.hindrance = machine, kind, hindrance
        self.text = machine.text
        self.outside = self.text[1][1][0]
        self.comes_out = functools.lru_cache(None)(self.comes_out)
        self.acted = functools.lru_cache(None)(self.acted)
        self.led = functools.lru_cache(None)(self.led)
        self.free = functools.lru_cache(None)(self.free)
        self.ends = functools.lru_cache(None)(self.ends)

    def free(self, at, door):
        return rules.stands(self.text, self.machine.standing(at), door) == "free"

    def signals(self, at):
        return [signal for signal in self.machine.signals if signal[0] != "tick"
                and (signal[0] != "pass" or self.free(at, signal[1]))]

    def rows(self, at):
        """All rows of the others, in order, each with the standing to which it leads."""
        layer = [((), at)]
        for _ in range(self.hindrance + 1):
            yield from layer
            layer = [(row + (signal,), self.machine.after(here, signal)[0]) for row, here in layer for signal in self.signals(here)]

    def deeds(self, at, area):
        for door in self.text[1][2]:
            for side in (0, 1):
                if door[1 + side] == area:
                    yield ("show", self.kind, door[0], side), self.machine.after(at, ("card", door[0], side, self.kind))[0], area
        for door in self.text[1][2]:
            for side in (0, 1):
                if door[1 + side] == area and self.free(at, door[0]):
                    yield ("go", self.kind, door[0], side), self.machine.after(at, ("pass", door[0], side))[0], door[2 - side]

    def led(self, at, area):
        """All (standing, area) to which own deeds lead, each by the least row."""
        met, order = {(at, area): ()}, [(at, area)]
        for here, there in order:
            if there != self.outside:
                for label, behind, new in self.deeds(here, there):
                    if (behind, new) not in met:
                        met[behind, new] = met[here, there] + (label,)
                        order.append((behind, new))
        return met

    def acted(self, at, area, t):
        """Whether the person, being to act, comes out within t."""
        return any(there == self.outside or (t > 0 and self.comes_out(self.machine.after(here, ("tick",))[0], there, t - 1))
                   for here, there in self.led(at, area))

    def ends(self, at):
        return {here for _, here in self.rows(at)}

    def comes_out(self, at, area, t):
        return all(self.acted(behind, area, t) for behind in self.ends(at))

    def least(self, at, area, most):
        return next((t for t in range(most + 1) if self.comes_out(at, area, t)), None)

    def deeds_out(self, at, area, row, t):
        here = at
        for signal in row:
            here = self.machine.after(here, signal)[0]
        good = [path for (behind, there), path in self.led(here, area).items() if there == self.outside
                or (t > 0 and self.comes_out(self.machine.after(behind, ("tick",))[0], there, t - 1))]
        # They stand in the order in which they are met.
        return list(good[0])


def small_machines(seed, many, most=14):
    rand = seeded(seed)
    found = 0
    while found < many:
        text = random_text(rand, random_building(rand, 3, 3, 2), 9, 2)
        ways = tuple((("card", door[0], rand.choice([0, 1]), rand.choice(["any", "guest"])),
                      rand.choice([("always",), ("right",), ("not", ("is", text[1][2][0][0], "free"))]),
                      (("let", door[0], "free"),)) for door in text[1][2])
        names = [door[0] for door in text[1][2]]
        # Doors that open one behind the other, tick by tick.
        chain = tuple((("tick",), ("is", one, rand.choice(["free", "free", "shut"])), (("let", other, rand.choice(["free", "free", "shut"])),))
                      for one, other in zip(names, names[1:] + names[:1]))
        if rand.random() < 0.7:
            ways = ways[:1] + chain
        text = text[:5] + ((ways + text[5])[:30],)
        world = random_world(rand, text)
        try:
            machine = machines.Machine(text, ("world", (), world[2][:1], world[3][:1], min(1, world[4], len(world[3][:1]))))
        except (errors.TooMany, errors.TooLong):
            continue
        if 1 < len(machine) <= most:
            found += 1
            yield rand, machine


class Games(unittest.TestCase):
    def test_against_plays(self):
        seen, hindered = {}, 0
        for rand, machine in small_machines(1, 70):
            hindrance = rand.choice([0, 0, 1, 1, 2])
            kind = rand.choice(machine.text[1][3])
            play = Play(machine, kind, hindrance)
            told = games.way_outs(machine, kind, hindrance)
            self.assertEqual(len(told), len(machine))
            for at, row in enumerate(told):
                self.assertEqual(list(row), list(machine.text[1][1][1:]))
                for area in row:
                    # With so few spots nobody comes out later than behind as many turns.
                    want = play.least(at, area, 30)
                    self.assertEqual(row[area], want, (at, area))
                    seen[want] = seen.get(want, 0) + 1
            for _ in range(6):
                at, area = rand.randrange(len(machine)), rand.choice(machine.text[1][1][1:])
                t = rand.choice([0, 0, 1, 2])
                want = next((list(row) for row, here in play.rows(at) if not play.acted(here, area, t)), None)
                self.assertEqual(games.hinder(machine, kind, hindrance, at, area, t), want)
                hindered += bool(want)
                row = list(rand.choice(list(play.rows(at)))[0])
                least = told[at][area]
                deeds = None if least is None else play.deeds_out(at, area, row, least)
                self.assertEqual(games.deeds_out(machine, kind, hindrance, at, area, row), deeds)
                self.assertEqual(games.deeds_out(machine, kind, hindrance, at, area, tuple(row)), deeds)
        self.assertTrue({None, 0, 1, 2} <= set(seen), seen)
        self.assertGreater(hindered, 5)

    def test_by_hand(self):
        """The door opens at a tick behind the bell; the others can ring it off again."""
        text = ("text", SMALL, (("bell", ("off", "on")),), (), (),
                ((("card", "door", 1, "any"), ("always",), (("let", "bell", "on"),)),
                 (("tick",), ("is", "bell", "on"), (("let", "door", "free"),)),
                 (("button", 0), ("is", "door", "shut"), (("let", "bell", "off"),)),
                 (("button", 1), ("always",), (("let", "door", "shut"),))))
        calm = machines.Machine(text, QUIET)
        show, go = ("show", "guest", "door", 1), ("go", "guest", "door", 1)
        self.assertEqual(games.way_outs(calm, "guest", 0)[0], {"room": 1})
        self.assertEqual(games.deeds_out(calm, "guest", 0, 0, "room", []), [show])
        free = [at for at in range(len(calm)) if calm.standing(at)[0][0] == "free"][0]
        self.assertEqual(games.way_outs(calm, "guest", 0)[free], {"room": 0})
        self.assertEqual(games.deeds_out(calm, "guest", 0, free, "room", []), [go])
        self.assertIsNone(games.hinder(calm, "guest", 0, 0, "room", 1))
        # Nothing hinders, but it takes a turn more.
        self.assertEqual(games.hinder(calm, "guest", 0, 0, "room", 0), [])
        # The bell is rung behind the others' deed, so it is on at the tick; then the door is free.
        ringing = machines.Machine(text, ("world", (), (0,), (), 0))
        self.assertEqual(games.way_outs(ringing, "guest", 2)[0], {"room": 1})
        shutting = machines.Machine(text, ("world", (), (1,), (), 0))
        self.assertEqual(games.way_outs(shutting, "guest", 0)[0], {"room": 1})
        self.assertEqual(games.way_outs(shutting, "guest", 1)[0], {"room": None})
        self.assertIsNone(games.deeds_out(shutting, "guest", 1, 0, "room", [("button", 1)]))
        self.assertEqual(games.hinder(shutting, "guest", 1, free, "room", 400), [("button", 1)])
        # A person that passes makes way for the others' passing, too: the leaf stays free.
        self.assertEqual(games.way_outs(calm, "guest", 2)[free], {"room": 0})

    def test_last_turn(self):
        """A counter of turns: who waits is out in the last turn that is let."""
        digits = [("is", name, "b") for name in "vwxyz"]
        text = four_thousand(False)
        made = [(("tick",), all_of(digits), (("let", "door", "free"),))]
        for at, name in enumerate("vwxyz"):
            ahead = [("is", one, "b") for one in "vwxyz"[:at]]
            made.append((("tick",), all_of(ahead + [("is", name, "a")]), tuple(("let", one, "a") for one in "vwxyz"[:at])[:3] + (("let", name, "b"),)))
            if at == 4:
                made.append((("tick",), all_of(ahead + [("is", name, "a")]), (("let", "y", "a"),)))
        machine = machines.Machine(text[:3] + ((), (), tuple(made)), QUIET)
        self.assertEqual(games.way_outs(machine, "guest", 2)[0], {"room": 32})
        self.assertEqual(games.hinder(machine, "guest", 1, 0, "room", 31), [])
        self.assertIsNone(games.hinder(machine, "guest", 1, 0, "room", 32))
        self.assertEqual(games.deeds_out(machine, "guest", 2, 0, "room", []), [])

    def test_at_most_four_hundred_turns(self):
        """The door is let free in just so many turns: within 400, or not."""
        for more, want in [(0, 400), (1, None)]:
            machine = machines.Machine(self.clock(400 + more), QUIET)
            told = games.way_outs(machine, "guest", 0)
            self.assertEqual(told[0], {"room": want})
            self.assertEqual(games.hinder(machine, "guest", 0, 0, "room", 400), None if want else [])
            self.assertEqual(games.deeds_out(machine, "guest", 0, 0, "room", []), [] if want else None)

    def clock(self, ticks):
        """A text that counts ticks in the figures of five variables, and opens the door with the last one."""
        def figures(number):
            return [number // 4 ** place % 4 for place in range(5)]
        values = ("a", "b", "c", "d")
        stop = all_of([("is", name, values[figure]) for name, figure in zip("vwxyz", figures(ticks - 1))])
        made = [(("tick",), stop, (("let", "door", "free"),))]
        for at, name in enumerate("vwxyz"):
            for here in range(4):
                full = [("is", one, "d") for one in "vwxyz"[:at]]
                made.append((("tick",), all_of(full + [("is", name, values[here])]), (("let", name, values[(here + 1) % 4]),)))
        return ("text", SMALL, tuple((name, values) for name in "vwxyz"), (), (), tuple(made))

    def test_more_hindrance_is_no_help(self):
        """(X4)"""
        for rand, machine in small_machines(2, 25, 40):
            rows = [games.way_outs(machine, machine.text[1][3][0], hindrance) for hindrance in (0, 1, 2)]
            for less, more in zip(rows, rows[1:]):
                for one, other in zip(less, more):
                    for area in one:
                        self.assertTrue(other[area] is None or (one[area] is not None and one[area] <= other[area]))

    def test_errors(self):
        machine = machines.Machine(helper.TEXT, helper.WORLD)
        for call, rest in [(games.way_outs, ()), (games.deeds_out, (None, None, None)), (games.hinder, (None, None, None))]:
            for value in helper.any_values():
                if not isinstance(value, machines.Machine):
                    with self.assertRaises(errors.BadMachine):
                        call(value, None, None, *rest)
                with self.assertRaises(errors.BadKind):
                    call(machine, value, None, *rest)
                with self.assertRaises(errors.BadHindrance):
                    call(machine, "guest", value, *rest)
            for value in (-1, 3, True):
                with self.assertRaises(errors.BadHindrance):
                    call(machine, "guest", value, *rest)
        for call in (games.deeds_out, games.hinder):
            for value in helper.any_values() + [-1, len(machine), False]:
                with self.assertRaises(errors.BadNumber):
                    call(machine, "guest", 1, value, None, None)
            for value in helper.any_values() + ["attic"]:
                with self.assertRaises(errors.BadArea):
                    call(machine, "guest", 1, 0, value, None)
        for t in helper.any_values() + [-1, 401, True]:
            with self.assertRaises(errors.BadTicks):
                games.hinder(machine, "guest", 1, 0, "hall", t)
        for row in [None, {}, "a", [None], [("tick",)], [("button", 1), ("button", 1)], [("button", 0)], [("smoke", "hall", "yes")],
                    [("pass", "front", 0)], [("card", "front", 0, "any")], [["button", 1]], [("button", True)], [("stuck", "front")]]:
            with self.assertRaises(errors.BadHinder):
                games.deeds_out(machine, "guest", 1, 0, "hall", row)
        # A pass is let where the door stands free, also behind another signal.
        row = [("card", "front", 0, "guest"), ("pass", "front", 0)]
        games.deeds_out(machine, "guest", 2, 0, "hall", row)
        with self.assertRaises(errors.BadHinder):
            games.deeds_out(machine, "guest", 1, 0, "hall", row)
        with self.assertRaises(errors.BadHinder):
            games.deeds_out(machine, "guest", 2, 0, "hall", row[::-1])
        with self.assertRaises(errors.BadHinder):
            games.deeds_out(machine, "guest", 0, 0, "hall", row[:1])
        games.deeds_out(machine, "guest", 2, 0, "hall", [("mended", "inner"), ("stuck", "inner")])

    def test_greatest(self):
        text = four_thousand(False)
        machine = machines.Machine(text, BUTTONS)
        told = games.way_outs(machine, "guest", 2)
        self.assertEqual({row["room"] for row in told}, {None})
        areas = ("out", "a", "b", "c", "d", "e")
        doors = tuple(("d" + areas[at + 1], areas[at + 1], areas[(at + 2) % 6], "leaf") for at in range(5)) + (("dx", "out", "a", "gate"),)
        kinds = ("x", "y", "z")
        tower = ("building", areas, doors, kinds, ())
        made = [(("card", door[0], "any", "any"), ("always",), (("let", door[0], "free"),)) for door in doors]
        made += [(("pass", door[0], "any"), ("always",), (("let", door[0], "shut"),)) for door in doors]
        wide = machines.Machine(("text", tower, (), (("t", 12),), (), tuple(made) + ((("button", 0), ("always",), (("start", "t", 12),)),)),
                                ("world", (), (0,), (), 0))
        for kind, hindrance in itertools.product(kinds, (0, 2)):
            told = games.way_outs(wide, kind, hindrance)
            self.assertEqual(len(told), 64 * 13)
            self.assertEqual(told[0], dict.fromkeys(areas[1:], 0))
        self.assertEqual(len(games.deeds_out(wide, "x", 2, 0, "c", [("card", "dc", 0, "y"), ("button", 0)])), 5)
        self.assertEqual(len(HOUSE[1]), 3)


if __name__ == "__main__":
    unittest.main()
