"""Warmth, against texts and air worked off tick by tick."""
import unittest

import helper
from helper import BUTTONS, HOUSE, SMALL, TEXT, four_thousand, put, random_building, random_text, ring_of, seeded
from housekept import air, comfort, errors, machines, meaning, rules, warmth

# A stove that cold lights by button 0, and warm puts out by button 1.
STOVE = ("text", SMALL, (("stove", ("off", "on")),), (), (),
         ((("button", 0), ("always",), (("let", "stove", "on"),)), (("button", 1), ("always",), (("let", "stove", "off"),)),
          (("card", "door", "any", "any"), ("right",), (("let", "door", "free"),)), (("pass", "door", "any"), ("always",), (("let", "door", "shut"),))))
WORLD = ("world", (), (0, 1), (), 0)
ROOM = ("air", (("room", 17, 22, 20),), 10, (("room", "out", 1, None),), (("stove", "room", 30),), (0, 4, 2, 1))
FITTING = (("room", "cold", 19, 0), ("room", "warm", 21, 1))
CARD, PASS = ("card", "door", 0, "guest"), ("pass", "door", 0)


def random_fit(rand):
    """A machine, an air that fits it, a fitting and others."""
    building = random_building(rand, 3, 2, 1)
    text = random_text(rand, building, 8, 2)
    text = text[:2] + ((("oven", ("off", "on")),), text[3], text[4], ()) if rand.random() < 1 else text
    made = [(("button", 0), ("always",), (("let", "oven", "on"),)), (("button", 1), ("always",), (("let", "oven", "off"),))]
    for door in building[2]:
        made.append((rand.choice([("card", door[0], "any", "any"), ("button", 2)]), ("always",), (("let", door[0], "free"),)))
        made.append((rand.choice([("pass", door[0], "any"), ("tick",), ("button", 1)]), ("always",), (("let", door[0], "shut"),)))
    text = text[:5] + (tuple(made),)
    machine = machines.Machine(text, ("world", (), (0, 1, 2), (), 0))
    rooms = []
    for area in building[1][1:1 + rand.randint(1, 2)]:
        low = rand.randint(-2, 2)
        high = low + rand.randint(1, 3)
        rooms.append((area, low, high, rand.randint(low, high)))
    names = [row[0] for row in rooms]
    leaks, shares = [], {name: rand.randint(2, 4) for name in names}
    whole = rand.randint(4, 6)
    for name, one, other, _ in building[2]:
        for area, behind in ((one, other), (other, one)):
            behind = "out" if behind == building[1][0] else behind
            if area in names and (behind == "out" or behind in names) and shares[area] > 0 and rand.random() < 0.7:
                leaks.append((area, behind, 1, name))
                shares[area] -= 1
    for area in names:
        if shares[area] > 0:
            leaks.append((area, "out", 1, None))
    heaters = (("oven", rand.choice(names), rand.choice([-6, 4, 8])),)
    if rand.random() < 0.4:
        # A door can be a heater's name, too: it is on while the variable is free.
        heaters += ((building[2][0][0], rand.choice(names), 5),)
    least = rand.randint(-3, 1)
    most = least + rand.randint(0, 2)
    made = ("air", tuple(rooms), whole, tuple(leaks[:6]), heaters, (least, most, rand.randint(least, most), rand.randint(0, 2)))
    fitting = tuple((rand.choice(names), rand.choice(["cold", "warm"]), rand.randint(-3, 4), rand.randint(0, 2)) for _ in range(rand.randint(0, 4)))
    others = tuple(rand.sample(machine.signals[:-1], rand.randint(0, 4)))
    return machine, made, fitting, others


class Second:
    """[95] by its words, over standings."""

    def __init__(self, machine, one, fitting, others):
        self.machine, self.air, self.fitting, self.others = machine, one, fitting, others
        self.text = machine.text
        first = (machine.standing(0), tuple(row[3] for row in one[1]), one[5][2])
        self.met, self.rows, self.lost = [first], {first: []}, None
        for moment in self.met:
            for label, behind in self.moves(moment):
                if behind is None:
                    if self.lost is None:
                        self.lost = self.rows[moment] + [label]
                elif behind not in self.rows:
                    self.rows[behind] = self.rows[moment] + [label]
                    self.met.append(behind)

    def after(self, standing, signal):
        return meaning.meaning(self.text, standing, signal)[0]

    def moves(self, moment):
        standing, degrees, weather = moment
        for signal in self.others:
            yield signal, (self.after(standing, signal), degrees, weather)
        least, most, _, move = self.air[5]
        names = dict(rules.variables(self.text))
        on = tuple(sorted(name for name, _, _ in self.air[4] if rules.value_of(self.text, standing, name) == names[name][1]))
        doors = {row[3] for row in self.air[3]} - {None}
        free = tuple(sorted(door for door in doors if rules.stands(self.text, standing, door) == "free"))
        for new in range(least, most + 1):
            if abs(new - weather) <= move:
                behind = air.next_degrees(self.air, degrees, new, (on, free))
                if any(not low <= degree <= high for degree, (_, low, high, _) in zip(behind, self.air[1])):
                    yield ("weather", new), None
                    continue
                here = standing
                for area, word, level, button in self.fitting:
                    degree = behind[[row[0] for row in self.air[1]].index(area)]
                    if (degree <= level) if word == "cold" else (degree >= level):
                        here = self.after(here, ("button", button))
                yield ("weather", new), (self.after(here, ("tick",)), behind, new)


class Moments(unittest.TestCase):
    def test_against_second(self):
        rand = seeded(1)
        seen = {"kept": 0, "lost": 0, "late": 0}
        while sum(seen.values()) < 120:
            machine, one, fitting, others = random_fit(rand)
            try:
                made = warmth.Warmth(machine, one, fitting, others)
            except errors.TooMany:
                continue
            second = Second(machine, one, fitting, others)
            moments = made.moments()
            self.assertEqual([(machine.standing(at), degrees, weather) for at, degrees, weather in moments], second.met)
            self.assertEqual(made.broken(), second.lost)
            seen["kept" if second.lost is None else "lost" if len(second.lost) < 3 else "late"] += 1
        self.assertGreater(min(seen.values()), 5)

    def test_by_hand(self):
        machine = machines.Machine(STOVE, WORLD)
        made = warmth.Warmth(machine, ROOM, FITTING, ())
        # At 20 with the stove off: (2 + 180) // 10 = 18, so cold rings, and the stove is on behind the tick.
        moments = made.moments()
        self.assertEqual(moments[0], (0, (20,), 2))
        self.assertEqual([(degrees, weather) for _, degrees, weather in moments[1:4]], [((18,), 1), ((18,), 2), ((18,), 3)])
        self.assertEqual([machine.standing(at)[0][2] for at, _, _ in moments[:4]], ["off", "on", "on", "on"])
        self.assertIsNone(made.broken())
        # Without a fitting it gets cold: 18, then (2 + 162) // 10 = 16.
        self.assertEqual(warmth.Warmth(machine, ROOM, (), ()).broken(), [("weather", 1), ("weather", 0)])
        # Just at its level a row rings; one degree above it does not.
        self.assertIsNone(warmth.Warmth(machine, ROOM, (("room", "cold", 18, 0), FITTING[1]), ()).broken())
        self.assertIsNotNone(warmth.Warmth(machine, ROOM, (("room", "cold", 17, 0), FITTING[1]), ()).broken())
        # Buttons come in the order of the rows: the last one counts.
        both = (("room", "cold", 40, 0), ("room", "cold", 40, 1))
        self.assertIsNotNone(warmth.Warmth(machine, ROOM, both, ()).broken())
        self.assertEqual({machine.standing(at)[0][2] for at, _, _ in warmth.Warmth(machine, ROOM, both[::-1], ()).moments()[1:]}, {"on"})
        # The others' signals come first.
        labels = warmth.Warmth(machine, ROOM, FITTING, (("button", 1),)).broken()
        self.assertEqual(labels[-3:], [("weather", 1), ("button", 1), ("weather", 0)])

    def test_doors(self):
        """With the door free, a leak more is there."""
        one = put(ROOM, (3,), (("room", "out", 1, None), ("room", "out", 2, "door")))
        machine = machines.Machine(STOVE, WORLD)
        self.assertIsNone(warmth.Warmth(machine, one, FITTING, ()).broken())
        self.assertEqual(warmth.Warmth(machine, one, FITTING, (CARD,)).broken(), [CARD, ("weather", 1)])
        self.assertEqual(len(warmth.Warmth(machine, one, FITTING, (PASS,)).moments()), len(warmth.Warmth(machine, one, FITTING, ()).moments()))

    def test_with_comfort(self):
        """(C7): without doors, broken tells whether the heaters shown are always free choices."""
        rand = seeded(2)
        seen = set()
        for _ in range(150):
            machine, one, fitting, others = random_fit(rand)
            one = one[:3] + (tuple(row[:3] + (None,) for row in one[3] if row[3] is None),) + one[4:]
            try:
                made = warmth.Warmth(machine, one, fitting, others)
            except errors.TooMany:
                continue
            names = dict(rules.variables(machine.text))
            shown = [(tuple(sorted(name for name, _, _ in one[4] if rules.value_of(machine.text, machine.standing(at), name) == names[name][1])),
                      (degrees, weather)) for at, degrees, weather in made.moments()]
            ons = tuple(sorted({on for on, _ in shown}))
            game = comfort.Comfort(one, ons, ((),))
            kept = all(ons.index(on) in game.free(state) for on, state in shown)
            seen.add(kept)
            self.assertEqual(made.broken() is None, kept)
        self.assertEqual(seen, {True, False})

    def test_six_hundred_moments_and_more(self):
        def counted(timers, toggles):
            text = four_thousand(False)
            names = "rst"[:timers] + "vwxyz"[:toggles]
            made = tuple(rule for rule in text[5] if rule[2][0][1] in names)
            return text[:2] + (text[2][:toggles], text[3][:timers], (), made)
        one = ("air", (("room", 0, 0, 0),), 1, (), (), (0, 2, 1, 2))
        others = (("button", 0), ("button", 1), ("button", 2))
        # 8 toggled standings, each with three weathers.
        self.assertEqual(len(warmth.Warmth(machines.Machine(counted(0, 3), BUTTONS), one, (), others).moments()), 24)
        most = warmth.Warmth(machines.Machine(counted(2, 3), BUTTONS), one, (), (CARD, ("card", "door", 1, "guest")) + others[:2])
        self.assertEqual(len(most.moments()), 25 * 4 * 3)
        just = one[:5] + ((0, 5, 1, 5),)
        self.assertEqual(len(warmth.Warmth(machines.Machine(counted(2, 3), BUTTONS), just, (), (CARD, ("card", "door", 1, "guest")) + others[:2]).moments()), 600)
        more = one[:5] + ((0, 6, 1, 6),)
        with self.assertRaises(errors.TooMany) as caught:
            warmth.Warmth(machines.Machine(counted(2, 3), BUTTONS), more, (), (CARD, ("card", "door", 1, "guest")) + others[:2])
        self.assertEqual(caught.exception.most, 600)
        still = ("air", (("room", 0, 0, 0),), 1, (), (), (0, 0, 0, 0))
        self.assertEqual(len(warmth.Warmth(machines.Machine(ring_of(600), BUTTONS), still, (), ()).moments()), 600)
        with self.assertRaises(errors.TooMany):
            warmth.Warmth(machines.Machine(ring_of(601), BUTTONS), still, (), ())
        # It is counted on, though the degrees have come out of bounds ahead.
        lost = ("air", (("room", 0, 0, 0),), 1, (("room", "out", 1, None),), (), (0, 6, 0, 6))
        self.assertEqual(warmth.Warmth(machines.Machine(STOVE, WORLD), lost, (), ()).broken(), [("weather", 1)])


class Fits(unittest.TestCase):
    def test_what_does_not_fit(self):
        machine = machines.Machine(STOVE, WORLD)
        good = (machine, ROOM, FITTING, (CARD,))
        warmth.Warmth(*good)
        area = ("air", (("hall", 17, 22, 20),), 10, (), (), ROOM[5])
        three = machines.Machine(put(STOVE, (2, 0, 1), ("off", "on", "hot")), WORLD)
        for args in [(machine, put(ROOM, (4, 0, 0), "oven"), FITTING, ()), (three, ROOM, FITTING, ()), (machine, area, (), ()),
                     (machine, ROOM, (("room", "cold", 19, 2),), ()), (machine, put(ROOM, (3, 0, 3), "gap"), FITTING, ()),
                     (machine, put(ROOM, (3, 0, 3), "stove"), FITTING, ())]:
            with self.assertRaises(errors.Unfit):
                warmth.Warmth(*args)
            with self.assertRaises(errors.BadOthers):
                warmth.Warmth(*args[:3], (("tick",),))
        # A door that joins other areas than its leak.
        house = machines.Machine(TEXT, helper.WORLD)
        two = ("air", (("hall", 0, 8, 4), ("lab", 0, 8, 4)), 4, (("hall", "lab", 1, "inner"), ("lab", "hall", 1, "inner"), ("hall", "out", 1, "front")), (), ROOM[5])
        warmth.Warmth(house, two, (), ())
        for at, new in [(0, ("hall", "out", 1, "inner")), (1, ("lab", "hall", 1, "front")), (2, ("lab", "out", 1, "front"))]:
            with self.assertRaises(errors.Unfit):
                warmth.Warmth(house, put(two, (3, at), new), (), ())
        # Outside is the building's first area, whatever its name.
        yard = put(put(STOVE, (1, 1, 0), "yard"), (1, 2, 0, 1), "yard")
        warmth.Warmth(machines.Machine(yard, WORLD), put(ROOM, (3, 0, 3), "door"), FITTING, ())
        self.assertEqual(HOUSE[1][0], "out")

    def test_errors(self):
        machine = machines.Machine(STOVE, WORLD)
        for value in helper.any_values():
            if not isinstance(value, machines.Machine):
                with self.assertRaises(errors.BadMachine):
                    warmth.Warmth(value, None, None, None)
            with self.assertRaises(errors.BadAir):
                warmth.Warmth(machine, value, None, None)
            if value != ():
                with self.assertRaises(errors.BadFitting):
                    warmth.Warmth(machine, ROOM, value, None)
                with self.assertRaises(errors.BadOthers):
                    warmth.Warmth(machine, ROOM, (), value)
        row = ("room", "cold", 19, 0)
        for fitting in [[row], (list(row),), (row,) * 5, (row[:3],), (row + (1,),), (("hall",) + row[1:],), (("out",) + row[1:],), (put(row, (1,), "hot"),),
                        (put(row, (2,), 41),), (put(row, (2,), -41),), (put(row, (2,), True),), (put(row, (3,), 6),), (put(row, (3,), False),), (put(row, (3,), -1),)]:
            with self.assertRaises(errors.BadFitting):
                warmth.Warmth(machine, ROOM, fitting, None)
        warmth.Warmth(machine, ROOM, (row,) * 4, ())
        signals = (CARD, PASS, ("button", 0), ("button", 1))
        warmth.Warmth(machine, ROOM, (), signals)
        for others in [list(signals), signals + (("card", "door", 1, "guest"),), (CARD, CARD), (("tick",),), (("button", 2),), (("button", True),),
                       (list(CARD),), (("smoke", "room", "yes"),), (("stuck", "door"),), (None,), ("button", 0)]:
            with self.assertRaises(errors.BadOthers):
                warmth.Warmth(machine, ROOM, (), others)

    def test_objects(self):
        machine = machines.Machine(STOVE, WORLD)
        made = warmth.Warmth(machine=machine, air=ROOM, fitting=FITTING, others=(PASS,))
        made.moments().clear()
        self.assertTrue(made.moments())
        lost = warmth.Warmth(machine, ROOM, (), ())
        lost.broken().clear()
        self.assertTrue(lost.broken())
        for value in helper.any_values() + [warmth.Warmth(machine, ROOM, FITTING, (PASS,))]:
            self.assertFalse(made == value)
        for call in (iter, list):
            with self.assertRaises(TypeError):
                call(made)


if __name__ == "__main__":
    unittest.main()
