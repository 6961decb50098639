"""Lifts by the words of [80] done one by one, their waits, and the texts that drive them."""
import itertools
import unittest

import helper
from helper import Plain, put, seeded
from housekept import errors, escapes, judging, lifts, lifttexts, liftwaits, machines, marks, promises, rules, times, webs

WORDS = ("go", "open", "rest", "turn")
TICK = ("tick",)


def plain_step(floors, stay, rule, standing, signal):
    """A lift that does the words of [80] one by one."""
    floor, way, left, lit = standing[0], standing[1], standing[2], set(standing[3])
    if signal[0] == "call":
        if not (left and floor == signal[1]):
            lit.add(signal[1])
        return (floor, way, left, tuple(sorted(lit)))
    left = max(0, left - 1)

    def word():
        ahead = any((one > floor) if way else (one < floor) for one in lit)
        behind = any((one < floor) if way else (one > floor) for one in lit)
        return rule[8 * way + 4 * (floor in lit) + 2 * ahead + behind]

    if left == 0:
        told = word()
        if told == "turn":
            way = 1 - way
            told = word()
            if told == "turn":
                way = 1 - way
                told = "rest"
        if told == "go" and floor != (floors - 1 if way else 0):
            floor += 1 if way else -1
        if told == "open":
            left = stay
            lit.discard(floor)
    return (floor, way, left, tuple(sorted(lit)))


def random_rule(rand):
    """A rule in which much happens."""
    return tuple(rand.choice(WORDS) if rand.random() < 0.5 else word
                 for word in rand.choice([lifts.collective(), lifts.one_way()]))


class Lifts(unittest.TestCase):
    def test_steps(self):
        rand = seeded(1)
        twice = 0
        for _ in range(3000):
            floors, stay = rand.randint(2, 8), rand.randint(1, 6)
            rule = tuple(rand.choice(WORDS) for _ in range(16))
            standing = (rand.randrange(floors), rand.randint(0, 1), rand.randint(0, stay),
                        tuple(at for at in range(floors) if rand.random() < 0.4))
            for signal in [("call", rand.randrange(floors)), TICK]:
                behind = lifts.lift_step(floors, stay, rule, standing, signal)
                self.assertEqual(behind, plain_step(floors, stay, rule, standing, signal))
            turned = lifts.lift_step(floors, stay, ("turn",) * 16, standing, TICK)
            self.assertEqual(turned, standing[:2] + (max(0, standing[2] - 1),) + standing[3:])
            twice += 1
        self.assertEqual(twice, 3000)

    def test_by_hand(self):
        rule = lifts.collective()
        step = lambda standing, signal: lifts.lift_step(3, 2, rule, standing, signal)
        here = step((0, 0, 0, ()), ("call", 2))
        self.assertEqual(here, (0, 0, 0, (2,)))
        met = []
        for _ in range(6):
            here = step(here, TICK)
            met.append(here)
        self.assertEqual(met, [(1, 1, 0, (2,)), (2, 1, 0, (2,)), (2, 1, 2, ()), (2, 1, 1, ()), (2, 1, 0, ()), (2, 1, 0, ())])
        # Where the doors are open a call is answered; a lamp may be lit while they are open; with the last tick
        # of staying the word is done.
        self.assertEqual(step((2, 1, 1, ()), ("call", 2)), (2, 1, 1, ()))
        self.assertEqual(step((2, 1, 1, (2,)), ("call", 2)), (2, 1, 1, (2,)))
        self.assertEqual(step((2, 1, 1, (2,)), TICK), (2, 1, 2, ()))
        self.assertEqual(step((2, 1, 1, (0,)), TICK), (1, 0, 0, (0,)))
        # At the last floor "go" rests.
        self.assertEqual(lifts.lift_step(3, 2, ("go",) * 16, (2, 1, 0, (0,)), TICK), (2, 1, 0, (0,)))
        self.assertEqual(lifts.lift_step(3, 2, ("go",) * 16, (0, 0, 0, ()), TICK), (0, 0, 0, ()))

    def test_rules(self):
        collective, one_way = lifts.collective(), lifts.one_way()
        self.assertEqual(collective[:8], ("rest", "turn", "go", "go", "open", "open", "open", "open"))
        self.assertEqual(collective[8:], collective[:8])
        self.assertEqual(one_way[:8], collective[:8])
        self.assertEqual(one_way[8:], ("rest", "turn", "go", "go", "turn", "turn", "go", "go"))
        self.assertIs(lifts.is_rule(collective), True)
        for value in helper.any_values() + [list(collective), collective[:15], collective + ("go",), put(collective, (3,), "Go"),
                                            put(collective, (15,), None), put(collective, (0,), ("go",))]:
            self.assertIs(lifts.is_rule(value), False)

    def test_standings_and_web(self):
        rand = seeded(2)
        for _ in range(25):
            floors, stay, rule = rand.randint(2, 4), rand.randint(1, 3), random_rule(rand)
            signals = [("call", floor) for floor in range(floors)] + [TICK]
            met = [(0, 0, 0, ())]
            rows = []
            for here in met:
                row = []
                for signal in signals:
                    there = plain_step(floors, stay, rule, here, signal)
                    if there not in met:
                        met.append(there)
                    row.append((signal, None, None, met.index(there)))
                rows.append(tuple(row))
            self.assertEqual(lifts.lift_standings(floors, stay, rule), met)
            web = lifts.lift_web(floors, stay, rule)
            self.assertEqual(web, ("web", (0,), tuple(rows)))
            self.assertIs(webs.is_web(web), True)

    def test_wrong(self):
        rule = lifts.collective()
        right = (3, 2, rule, (0, 0, 0, (1,)), TICK)
        values = {0: [1, 9, True, None, "3"], 1: [0, 7, True, None], 2: [rule[:15], list(rule), None],
                  3: [(3, 0, 0, ()), (-1, 0, 0, ()), (0, 2, 0, ()), (0, True, 0, ()), (0, 0, 3, ()), (0, 0, -1, ()), (0, 0, 0, [1]),
                      (0, 0, 0, (1, 1)), (0, 0, 0, (3,)), (0, 0, 0, (2, 1)), (False, 0, 0, ()), [0, 0, 0, ()], (0, 0, 0), None],
                  4: [("call", 3), ("call", -1), ("call", True), ("call",), ("tick", 1), ["tick"], ("tock",), ("call", "1"), None]}
        names = [errors.BadFloors, errors.BadStay, errors.BadRule, errors.BadStanding, errors.BadSignal]
        for at in values:
            for value in values[at]:
                # What stands behind it may be wrong, too.
                args = right[:at] + (value,) + (None,) * (4 - at)
                with self.assertRaises(names[at]):
                    lifts.lift_step(*args)
                with self.assertRaises(names[at]):
                    lifts.lift_step(*put(right, (at,), value))
        for call in (lifts.lift_standings, lifts.lift_web, liftwaits.call_waits, liftwaits.greatest_wait, liftwaits.held):
            for args, error in [((1, None, None), errors.BadFloors), ((9, 1, rule), errors.BadFloors),
                                ((2, 7, None), errors.BadStay), ((2, 6, rule + ("go",)), errors.BadRule)]:
                with self.assertRaises(error):
                    call(*args)

    def test_named(self):
        rule = lifts.collective()
        self.assertEqual(lifts.lift_step(floors=2, stay=1, rule=rule, standing=(0, 0, 0, (0,)), signal=TICK), (0, 0, 1, ()))
        self.assertEqual(len(lifts.lift_standings(floors=8, stay=6, rule=rule)), 14336)


class Waits(unittest.TestCase):
    def test_formulas(self):
        for floors, stay in itertools.product(range(2, 6), range(1, 4)):
            self.assertEqual(liftwaits.call_waits(floors, stay, lifts.collective()), liftwaits.collective_waits(floors, stay))
            self.assertEqual(liftwaits.call_waits(floors, stay, lifts.one_way()), liftwaits.one_way_waits(floors, stay))
        for floors, stay in [(8, 6), (6, 2), (2, 6), (7, 1)]:
            self.assertEqual(liftwaits.call_waits(floors, stay, lifts.collective()), liftwaits.collective_waits(floors, stay))
            self.assertEqual(liftwaits.call_waits(floors, stay, lifts.one_way()), liftwaits.one_way_waits(floors, stay))
        self.assertEqual(liftwaits.collective_waits(3, 2), (4 + 6, 2 + 2, 4 + 6))
        self.assertEqual(liftwaits.one_way_waits(3, 2), (8, 8, 8))
        self.assertEqual(liftwaits.collective_waits(1000, 1000)[0], 2 * 999 + (2 * 999 - 1) * 1000)
        self.assertEqual(liftwaits.collective_waits(2, 1), (3, 3))
        self.assertEqual(liftwaits.one_way_waits(1000, 1000), (999 * 1002,) * 1000)
        for call in (liftwaits.collective_waits, liftwaits.one_way_waits):
            for args, error in [((1, 0), errors.BadFloors), ((1001, 1), errors.BadFloors), ((True, 1), errors.BadFloors),
                                ((2, 0), errors.BadStay), ((2, 1001), errors.BadStay), ((2, None), errors.BadStay)]:
                with self.assertRaises(error):
                    call(*args)

    def test_every_rule(self):
        """Waits of any rule tick by tick; none is below that of one way; with a greatest wait a lift that is held serves all."""
        rand = seeded(3)
        bounded = 0
        for _ in range(120):
            floors, stay = rand.randint(2, 3), rand.randint(1, 2)
            rule = list(rand.choice([lifts.collective(), lifts.one_way()]))
            for _ in range(rand.randint(0, 3)):
                rule[rand.randrange(16)] = rand.choice(WORDS)
            rule = tuple(rule)
            web = lifts.lift_web(floors, stay, rule)
            waits = []
            for floor in range(floors):
                one, other = liftwaits.call_marks(floors, stay, rule, floor)
                self.assertEqual(one, ((), (("call", floor),)))
                self.assertEqual(other, (tuple(at for at, standing in enumerate(lifts.lift_standings(floors, stay, rule))
                                               if standing[2] and standing[0] == floor), ()))
                self.assertIs(marks.is_mark(web, other), True)
                empty = [t for t in range(60) if not marks.open_places(web, one, other, t)]
                waits.append(min(empty, default=None))
            self.assertEqual(liftwaits.call_waits(floors, stay, rule), tuple(waits))
            greatest = liftwaits.greatest_wait(floors, stay, rule)
            self.assertEqual(greatest, None if None in waits else max(waits))
            if greatest is not None:
                bounded += 1
                self.assertGreaterEqual(greatest, (floors - 1) * (2 + stay))
                self.assertEqual(set(liftwaits.held(floors, stay, rule)[1]), set(range(floors)))
        self.assertGreater(bounded, 10)

    def test_held(self):
        rand = seeded(4)
        heads = 0
        for _ in range(400):
            floors, stay = rand.randint(2, 5), rand.randint(1, 3)
            rule = random_rule(rand) if rand.random() < 0.7 else tuple(rand.choice(WORDS) for _ in range(16))
            ahead, turn = liftwaits.held(floors, stay, rule)
            here, met, opened = (0, 0, 0, tuple(range(floors))), [], []
            while here not in met:
                met.append(here)
                floor, way, left, _ = plain_step(floors, stay, rule, here, TICK)
                opened.append([floor] if left == stay else [])
                here = (floor, way, left, tuple(one for one in range(floors) if left == 0 or one != floor))
            first = met.index(here)
            self.assertEqual(ahead, sum(opened[:first], []))
            self.assertEqual(turn, sum(opened[first:], []))
            heads += bool(ahead)
        self.assertGreater(heads, 5)
        self.assertEqual(liftwaits.held(4, 2, lifts.collective()), ([], [0, 1, 2, 3, 2, 1]))
        self.assertEqual(liftwaits.held(4, 2, lifts.one_way()), ([], [0, 3, 2, 1]))
        self.assertEqual(liftwaits.held(2, 1, ("rest",) * 16), ([], []))

    def test_wrong_floor(self):
        rule = lifts.collective()
        for floor in (-1, 3, True, None, "0", 10 ** 99):
            with self.assertRaises(errors.BadFloor):
                liftwaits.call_marks(3, 1, rule, floor)
        with self.assertRaises(errors.BadRule):
            liftwaits.call_marks(3, 1, None, None)


ALL = [(floors, stay, fire) for floors in (2, 3, 4) for stay in (1, 2, 6) for fire in (False, True) if floors < 4 or not fire]


class Texts(unittest.TestCase):
    def test_text_in_full(self):
        """[82] by hand, for two floors with fire."""
        idle = ("not", ("running", "run"))
        quiet, burns = ("is", "fire", "no"), ("is", "fire", "yes")
        low, high, up = ("not", ("least", "at", 1)), ("least", "at", 1), ("least", "up", 1)
        lit = [("is", "calla", "lit"), ("is", "callb", "lit")]
        dark = [("is", "calla", "dark"), ("is", "callb", "dark")]
        both = lambda one, other: ("both", one, other)
        tick, always = ("tick",), ("always",)
        made = (
            (("button", 0), ("is", "la", "shut"), (("let", "calla", "lit"),)),
            (("button", 1), ("is", "lb", "shut"), (("let", "callb", "lit"),)),
            (("ran", "run"), always, (("let", "la", "shut"), ("let", "lb", "shut"))),
            (tick, both(both(idle, quiet), both(low, lit[0])), (("let", "calla", "dark"), ("let", "la", "free"), ("start", "run", 3))),
            (tick, both(both(idle, quiet), both(high, lit[1])), (("let", "callb", "dark"), ("let", "lb", "free"), ("start", "run", 3))),
            (tick, both(both(both(idle, quiet), low), both(both(dark[0], up), lit[1])), (("more", "at"),)),
            (tick, both(both(both(idle, quiet), high), both(both(dark[1], ("not", up)), lit[0])), (("less", "at"),)),
            (tick, both(both(both(idle, quiet), high), both(both(dark[1], up), lit[0])), (("less", "at"), ("less", "up"))),
            (tick, both(both(both(idle, quiet), low), both(both(dark[0], ("not", up)), lit[1])), (("more", "at"), ("more", "up"))),
            (("card", "main", "any", "any"), ("right",), (("let", "main", "free"),)),
            (("smoke", "first", "yes"), always, (("let", "fire", "yes"),)),
            (tick, both(both(idle, burns), high), (("less", "at"), ("less", "up"))),
            (tick, both(both(idle, burns), both(low, ("is", "la", "shut"))), (("let", "calla", "dark"), ("let", "la", "free"))),
            (("becomes", "fire", "yes"), always, (("let", "main", "free"), ("let", "sa", "free"))),
            (("becomes", "fire", "no"), always, (("let", "main", "shut"), ("let", "sa", "shut"))),
            (("pass", "main", "any"), burns, (("let", "main", "free"),)),
            (("button", 5), both(both(burns, ("is", "smoke:first", "no")), ("is", "la", "free")),
             (("let", "fire", "no"), ("start", "run", 3))))
        house = ("building", ("out", "ground", "first", "cabin"),
                 (("la", "ground", "cabin", "leaf"), ("lb", "first", "cabin", "leaf"), ("main", "out", "ground", "gate"),
                  ("sa", "ground", "first", "leaf")), ("guest",), (("guest", "main", 0), ("guest", "main", 1)))
        calls = (("calla", ("dark", "lit")), ("callb", ("dark", "lit")), ("fire", ("no", "yes")))
        text = ("text", house, calls, (("run", 3),), (("at", 1), ("up", 1)), made)
        self.assertEqual(lifttexts.lift_text(2, 3, True), text)
        self.assertEqual(lifttexts.lift_text(floors=2, stay=3, fire=True), text)

    def test_parts_of_greater_texts(self):
        text = lifttexts.lift_text(4, 1, False)
        self.assertEqual(text[1][1], ("out", "ground", "first", "second", "third", "cabin"))
        self.assertEqual([door[0] for door in text[1][2]], ["la", "lb", "lc", "ld", "main"])
        self.assertEqual([name for name, _ in text[2]], ["calla", "callb", "callc", "calld"])
        self.assertEqual((text[3], text[4]), ((("run", 1),), (("at", 3), ("up", 1))))
        self.assertEqual(len(text[5]), 4 + 1 + 4 + 3 * 4 + 1)
        idle, up = ("not", ("running", "run")), ("least", "up", 1)
        # (4) for floor 1: idle, there(1) of two conditions, dark(1), up, ANY of the two above.
        rule = text[5][10]
        there = (("least", "at", 1), ("not", ("least", "at", 2)))
        lit = ("either", ("is", "callc", "lit"), ("is", "calld", "lit"))
        self.assertEqual(rule, (("tick",), ("both", ("both", ("both", idle, there[0]), there[1]),
                                            ("both", ("both", ("is", "callb", "dark"), up), lit)), (("more", "at"),)))
        # (6) for floor 2: dark of all above, ANY of the two below.
        rule = text[5][16]
        self.assertEqual(rule[2], (("less", "at"), ("less", "up")))
        self.assertEqual(rule[1], ("both", ("both", ("both", idle, ("least", "at", 2)), ("both", ("not", ("least", "at", 3)), ("is", "callc", "dark"))),
                                   ("both", ("both", up, ("is", "calld", "dark")), ("either", ("is", "calla", "lit"), ("is", "callb", "lit")))))
        three = lifttexts.lift_text(3, 2, True)
        self.assertEqual(three[1][2][4:], (("sa", "ground", "first", "leaf"), ("sb", "first", "second", "leaf")))
        self.assertEqual(three[5][-7][0], ("smoke", "second", "yes"))
        self.assertEqual(three[5][-4][2], (("let", "main", "free"), ("let", "sa", "free"), ("let", "sb", "free")))

    def test_all_are_texts_without_clashes(self):
        for floors, stay, fire in ALL:
            text = lifttexts.lift_text(floors, stay, fire)
            self.assertIsNone(rules.fault(text))
            machine = machines.Machine(text, lifttexts.lift_world(floors, stay, fire))
            self.assertEqual(judging.clashes(machine), {})
            self.assertIsNone(judging.endless(machine))
            doors = [door[0] for door in text[1][2] if door[2] == "cabin"]
            for at in range(len(machine)):
                free = [name for name in doors if judging.holds(machine, at, ("stands", name, "free"))]
                self.assertLessEqual(len(free), 1)
                for name in free:
                    self.assertEqual(doors.index(name), lifttexts.lift_of(text, machine.standing(at))[0])

    def test_world(self):
        self.assertEqual(lifttexts.lift_world(3, 1, False), ("world", (), (0, 1, 2), (), 0))
        self.assertEqual(lifttexts.lift_world(3, 1, True), ("world", ("second",), (0, 1, 2, 5), (), 0))
        self.assertEqual(lifttexts.lift_world(2, 6, True), ("world", ("first",), (0, 1, 5), (), 0))

    def test_text_beside_the_lift(self):
        """Along random rows of all signals, by a plain interpreter."""
        rand = seeded(5)
        for floors, stay, fire in ALL:
            if fire:
                continue
            text = lifttexts.lift_text(floors, stay, fire)
            plain = Plain(text)
            standing, lift = rules.begin(text), (0, 0, 0, ())
            signals = machines.signals_in(text, lifttexts.lift_world(floors, stay, fire))
            for _ in range(400):
                signal = rand.choice(signals + [TICK] * 8)
                standing = plain.account(standing, signal)[0]
                if signal[0] == "button":
                    lift = plain_step(floors, stay, lifts.collective(), lift, ("call", signal[1]))
                if signal == TICK:
                    lift = plain_step(floors, stay, lifts.collective(), lift, TICK)
                self.assertEqual(lifttexts.lift_of(text, standing), lift)
                for floor in range(floors):
                    how = "free" if lift[2] and lift[0] == floor else "shut"
                    self.assertEqual(rules.stands(text, standing, "l" + "abcd"[floor]), how)

    def test_with_fire(self):
        for floors, stay, fire in ALL:
            if not fire:
                continue
            text = lifttexts.lift_text(floors, stay, fire)
            machine = machines.Machine(text, lifttexts.lift_world(floors, stay, fire))
            web = webs.web_of(machine)
            area = ("first", "second")[floors - 2]
            one = ((), (("smoke", area, "yes"),))
            other = marks.mark_of(machine, ("both", ("is", "la", "free"), ("is", "fire", "yes")), (("smoke", area, "no"),))
            self.assertEqual(times.within(web, one, other), stay + floors - 1)
            for at in promises.places_where(machine, ("is", "fire", "yes")):
                for floor in ("ground", "first", "second")[:floors]:
                    self.assertIn("out", escapes.free_areas(machine, at, floor))
                if judging.holds(machine, at, ("stands", "la", "free")):
                    self.assertIn("out", escapes.free_areas(machine, at, "cabin"))

    def test_lift_of(self):
        text = lifttexts.lift_text(3, 4, False)
        begin = rules.begin(text)
        self.assertEqual(lifttexts.lift_of(text, begin), (0, 0, 0, ()))
        values = begin[0][:-3] + ("lit", "dark", "lit")
        self.assertEqual(lifttexts.lift_of(text, (values, (3,), (2, 1), begin[3])), (2, 1, 3, (0, 2)))
        for value in (None, (), helper.PLAIN[:5], 3):
            with self.assertRaises(errors.BadText) as caught:
                lifttexts.lift_of(value, None)
            self.assertEqual(caught.exception.place, rules.fault(value))
            self.assertIsNotNone(caught.exception.place)
        others = [helper.PLAIN, helper.TEXT, text[:5] + (text[5][:-1],), put(text, (3, 0, 1), 5), put(text, (5, 0, 0, 1), 1),
                  lifttexts.text_for(2, 7, False), lifttexts.text_for(4, 2, True)]
        for other in others:
            if rules.is_text(other):
                with self.assertRaises(errors.BadText) as caught:
                    lifttexts.lift_of(other, rules.begin(other))
                self.assertIsNone(caught.exception.place)
        for standing in (None, begin[:3], put(begin, (1, 0), 5), put(begin, (1, 0), True), ()):
            with self.assertRaises(errors.BadStanding):
                lifttexts.lift_of(text, standing)

    def test_wrong(self):
        for call in (lifttexts.lift_text, lifttexts.lift_world):
            for args, error in [((1, 1, False), errors.BadFloors), ((5, 1, False), errors.BadFloors), ((True, 1, False), errors.BadFloors),
                                ((None, None, None), errors.BadFloors), ((2, 0, None), errors.BadStay), ((2, 7, False), errors.BadStay),
                                ((4, 1, True), errors.BadFire), ((2, 1, 1), errors.BadFire), ((2, 1, 0), errors.BadFire),
                                ((2, 1, None), errors.BadFire), ((2, 1, "no"), errors.BadFire), ((2, 1, []), errors.BadFire)]:
                with self.assertRaises(error):
                    call(*args)


if __name__ == "__main__":
    unittest.main()
