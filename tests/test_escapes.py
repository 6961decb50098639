"""Ways out, against crowds that walk one by one, and smoke told tick by tick."""
import itertools
import unittest

import helper
from helper import HOUSE, SMALL, Plain, four_thousand, random_building, random_text, seeded
from housekept import errors, escapes, machines, promises, rules, tables, webs

SMOKY = ("world", ("room",), (), (), 0)
# The door is let free behind so many ticks of smoke, and shut at its end.
RIGHTS = SMALL[:4] + ((("guest", "door", 0), ("guest", "door", 1)),)


def fire(most):
    """A text that opens the door some ticks behind smoke; 0: never."""
    made = [(("card", "door", 0, "any"), ("always",), (("let", "door", "free"),)),
            (("pass", "door", "any"), ("is", "smoke:room", "no"), (("let", "door", "shut"),)),
            (("becomes", "smoke:room", "yes"), ("always",), (("let", "door", "shut"), ("start", "wait", max(most, 1)))),
            (("ran", "wait"), ("is", "smoke:room", "yes"), (("let", "door", "free"),))]
    made[0] = (made[0][0], ("is", "smoke:room", "no"), made[0][2])
    if most == 0:
        made.pop()
    return ("text", SMALL, (), (("wait", max(most, 1)),), (), tuple(made))


def small_machines(seed, many, most=30, areas=2):
    rand = seeded(seed)
    found = 0
    while found < many:
        text = random_text(rand, random_building(rand, areas, 2, 1), 8, 2)
        # So that somebody comes in.
        door = text[1][2][0][0]
        text = text[:5] + (((("card", door, "any", "any"), ("not", ("is", "smoke:hall", "yes")), (("let", door, "free"),)),) + text[5],)
        try:
            machine = machines.Machine(text, ("world", ("hall",), tuple(range(rand.randint(0, 2))), (), 0))
        except (errors.TooMany, errors.TooLong):
            continue
        if len(machine) <= most:
            found += 1
            yield rand, machine


class Ages(unittest.TestCase):
    def second(self, machine, area, most):
        """The web and its places, ages by [50]."""
        base = webs.web_of(machine)[2]

        def smoke(at):
            return rules.value_of(machine.text, machine.standing(at), "smoke:" + area)
        places, web = [(0, 0)], []
        for at, age in places:
            moves = []
            for label, need, there, behind in base[at]:
                new = 0
                if smoke(behind) == "yes" and smoke(at) == "yes":
                    new = min(most, age + 1) if label == ("tick",) else age
                if (behind, new) not in places:
                    places.append((behind, new))
                moves.append((label, need, there, places.index((behind, new))))
            web.append(tuple(moves))
        return ("web", (0,), tuple(web)), tuple(places)

    def test_against_second(self):
        for rand, machine in small_machines(1, 30):
            for most in (0, 1, rand.randint(2, 12), 12):
                self.assertEqual(escapes.aged(machine, "hall", most), self.second(machine, "hall", most))
                web, places = escapes.aged(machine, "hall", most)
                self.assertIs(webs.is_web(web), True)
                bad = []
                for place, (at, age) in enumerate(places):
                    told = rules.value_of(machine.text, machine.standing(at), "smoke:hall")
                    if age == most and told == "yes" and "out" not in escapes.free_areas(machine, at, "hall"):
                        bad.append(place)
                self.assertEqual(escapes.bad_places(machine, "hall", most), tuple(bad))

    def test_ages_along_a_row(self):
        machine = machines.Machine(fire(3), SMOKY)
        web, places = escapes.aged(machine, "room", 2)
        yes, no, tick = ("smoke", "room", "yes"), ("smoke", "room", "no"), ("tick",)
        for row, ages in [([yes, tick, yes, tick, tick, tick], [0, 1, 1, 2, 2, 2]), ([tick, yes, tick, no, yes, tick], [0, 0, 1, 0, 0, 1]),
                          ([yes, tick, no, tick, tick, yes], [0, 1, 0, 0, 0, 0])]:
            place = 0
            for label, age in zip(row, ages):
                place = [behind for one, _, _, behind in web[2][place] if one == label][0]
                self.assertEqual(places[place][1], age)
        self.assertEqual({age for _, age in escapes.aged(machine, "room", 0)[1]}, {0})
        self.assertEqual(max(age for _, age in escapes.aged(machine, "room", 12)[1]), 12)

    def test_start_in_smoke(self):
        text = fire(2)
        standing = (("shut", "yes"), (None,), (), (None,))
        machine = machines.Machine(text, SMOKY, start=standing)
        self.assertEqual(escapes.aged(machine, "room", 1)[1][:2], ((0, 0), (1, 0)))
        self.assertEqual(escapes.bad_places(machine, "room", 0)[0], 0)

    def test_too_many(self):
        machine = machines.Machine(four_thousand(False), ("world", ("room",), (0, 1, 2, 3, 5), (), 0))
        many = len(machine)
        self.assertEqual(many, 4000)
        with self.assertRaises(errors.TooMany) as caught:
            escapes.aged(machine, "room", 12)
        self.assertEqual(caught.exception.most, 20000)
        for call in (escapes.bad_places, escapes.shut_in):
            with self.assertRaises(errors.TooMany):
                call(machine, "room", 12)
        self.assertEqual(len(escapes.aged(machine, "room", 0)[1]), many)


class Areas(unittest.TestCase):
    def test_free_areas(self):
        rand = seeded(2)
        for _ in range(20):
            text = random_text(rand, random_building(rand, 5, 5, 1), 8, 2)
            machine = machines.Machine(text, ("world", (), (0,), (), 0))
            for at in rand.sample(range(len(machine)), min(10, len(machine))):
                for area in text[1][1]:
                    near, todo = {area}, [area]
                    for here in todo:
                        for name, one, other, _ in text[1][2]:
                            if here in (one, other) and rules.stands(text, machine.standing(at), name) == "free":
                                todo += [new for new in (one, other) if new not in near]
                                near |= {one, other}
                    self.assertEqual(escapes.free_areas(machine, at, area), [one for one in text[1][1] if one in near])


class ShutIn(unittest.TestCase):
    def can_be_shut_in(self, machine, area, t, household):
        """Whether a household comes to be so, all of its crowds walking one by one."""
        text = machine.text
        plain = Plain(text)
        areas = text[1][1]

        def told(at):
            return plain.opened(machine.standing(at))["variable"]["smoke:" + area] == "yes"
        first = (0, 0, tuple((many,) + (0,) * (len(areas) - 1) for many in household))
        met, todo = {first}, [first]
        for at, age, crowd in todo:
            place = areas.index(area)
            if told(at) and age >= t and "out" not in escapes.free_areas(machine, at, area) and any(row[place] for row in crowd):
                return True
            nexts = []
            for signal in machine.signals:
                behind = machine.after(at, signal)[0]
                if signal[0] == "card":
                    side = areas.index([door for door in text[1][2] if door[0] == signal[1]][0][1 + signal[2]])
                    if crowd[text[1][3].index(signal[3])][side]:
                        nexts.append((behind, signal, crowd))
                elif signal[0] == "pass":
                    door = [door for door in text[1][2] if door[0] == signal[1]][0]
                    here, there = areas.index(door[1 + signal[2]]), areas.index(door[2 - signal[2]])
                    if rules.stands(text, machine.standing(at), signal[1]) == "free":
                        for kind, row in enumerate(crowd):
                            if row[here]:
                                new = [many - (one == here) + (one == there) for one, many in enumerate(row)]
                                nexts.append((behind, signal, crowd[:kind] + (tuple(new),) + crowd[kind + 1:]))
                else:
                    nexts.append((behind, signal, crowd))
            for behind, signal, new in nexts:
                later = min(t, age + (signal == ("tick",))) if told(behind) and told(at) else 0
                if (behind, later, new) not in met:
                    met.add((behind, later, new))
                    todo.append((behind, later, new))
        return False

    def test_against_crowds(self):
        seen = {True: 0, False: 0}
        for rand, machine in small_machines(3, 40, 16):
            t = rand.choice([0, 0, 1, 2, 3])
            try:
                found = escapes.shut_in(machine, "hall", t)
            except errors.TooMany:
                continue
            for household in [(0,), (1,), (2,)]:
                want = self.can_be_shut_in(machine, "hall", t, household)
                seen[want] += 1
                self.assertEqual(any(less <= household for less, _ in found), want)
            for household, course in found:
                web, _ = escapes.aged(machine, "hall", t)
                places = escapes.bad_places(machine, "hall", t)
                loads = promises.loads_of(machine.text[1], web, ("never", places, (("any", "hall", 1),)))
                table = tables.Table(machine.text[1], web, loads, 1000)
                crowd = ((household[0],) + (0,) * (len(machine.text[1][1]) - 1),)
                self.assertEqual(course, (0, table.moves_left(0, crowd)))
        self.assertGreater(min(seen.values()), 15)

    def second_safe(self, machine, area, household):
        for t in range(12, -1, -1):
            if any(household is None or all(a <= b for a, b in zip(less, household)) for less, _ in escapes.shut_in(machine, area, t)):
                return None if t == 12 else t + 1
        return 0

    def test_safe(self):
        seen = set()
        for most in (0, 1, 2, 5, 12):
            machine = machines.Machine(fire(most), SMOKY)
            want = None if most == 0 else most
            seen.add(escapes.safe_after(machine, "room"))
            self.assertEqual(escapes.safe_after(machine, "room"), want, most)
            self.assertEqual(escapes.safe_for(machine, "room", (1,)), want)
            self.assertEqual(escapes.safe_for(machine, "room", (0,)), 0)
            self.assertEqual(self.second_safe(machine, "room", None), want)
        self.assertEqual(seen, {None, 1, 2, 5, 12})
        always = ("text", SMALL, (), (), (), ((("card", "door", 0, "any"), ("always",), (("let", "door", "free"),)),))
        self.assertEqual(escapes.safe_after(machines.Machine(always, SMOKY), "room"), 0)
        self.assertEqual(escapes.shut_in(machines.Machine(always, SMOKY), "room", 0), [])

    def test_safe_against_second(self):
        seen = {}
        for rand, machine in small_machines(4, 12, 12):
            try:
                want = self.second_safe(machine, "hall", None)
            except errors.TooMany:
                continue
            self.assertEqual(escapes.safe_after(machine, "hall"), want)
            seen[want] = seen.get(want, 0) + 1
            for household in [(0,), (1,), (3,)]:
                self.assertEqual(escapes.safe_for(machine, "hall", household), self.second_safe(machine, "hall", household))
            # (X2): bad households with a greater t are bad with a lesser one.
            later, sooner = escapes.shut_in(machine, "hall", 3), escapes.shut_in(machine, "hall", 1)
            for household, _ in later:
                self.assertTrue(any(less <= household for less, _ in sooner))
        self.assertGreater(len(seen), 1)

    def test_by_hand(self):
        machine = machines.Machine(fire(0), SMOKY)
        (household, (begin, moves)), = escapes.shut_in(machine, "room", 1)
        self.assertEqual((household, begin), ((1,), 0))
        self.assertEqual([move[0] for move in moves], [("show", "guest", "door", 0), ("go", "guest", "door", 0), ("smoke", "room", "yes"), ("tick",)])

    def test_area_without_doors(self):
        """Nobody comes into an area to which no door leads: it is shut in, and empty."""
        building = ("building", ("out", "room", "attic"), (("door", "out", "room", "leaf"),), ("guest",), (("guest", "door", 0),))
        text = ("text", building, (), (), (), ((("card", "door", 0, "any"), ("always",), (("let", "door", "free"),)),))
        machine = machines.Machine(text, ("world", ("room", "attic"), (), (), 0))
        self.assertEqual(escapes.free_areas(machine, 0, "attic"), ["attic"])
        self.assertTrue(escapes.bad_places(machine, "attic", 0))
        self.assertEqual(escapes.shut_in(machine, "attic", 0), [])
        self.assertEqual(escapes.safe_after(machine, "attic"), 0)

    def test_door_open_by_t(self):
        """(X3): where from t ticks of smoke on all doors stand free, safe_after is at most t."""
        for t in (1, 3):
            building = HOUSE[:2] + (tuple(door[:3] + ("leaf",) for door in HOUSE[2]),) + HOUSE[3:]
            made = tuple((("card", door, "any", "any"), ("is", "smoke:lab", "no"), (("let", door, "free"),)) for door in ("front", "inner"))
            made += tuple((("pass", door, "any"), ("is", "smoke:lab", "no"), (("let", door, "shut"),)) for door in ("front", "inner"))
            made += ((("smoke", "lab", "yes"), ("not", ("running", "wait")), (("start", "wait", t),)),
                     (("ran", "wait"), ("is", "smoke:lab", "yes"), (("let", "front", "free"), ("let", "inner", "free"))),
                     (("smoke", "lab", "no"), ("always",), (("stop", "wait"),)))
            machine = machines.Machine(("text", building, (), (("wait", t),), (), made), ("world", ("lab",), (), (), 0))
            self.assertLessEqual(escapes.safe_after(machine, "lab"), t)


class Errors(unittest.TestCase):
    def test_order(self):
        machine = machines.Machine(fire(1), SMOKY)
        for call, rest in [(escapes.aged, 1), (escapes.bad_places, 1), (escapes.shut_in, 1), (escapes.safe_after, 0), (escapes.safe_for, 1)]:
            bad = ["no"] * rest
            for value in helper.any_values():
                if not isinstance(value, machines.Machine):
                    with self.assertRaises(errors.BadMachine):
                        call(value, None, *bad)
                with self.assertRaises(errors.BadArea):
                    call(machine, value, *bad)
            with self.assertRaises(errors.BadArea):
                call(machine, "out", *bad)
        for call in (escapes.aged, escapes.bad_places, escapes.shut_in):
            for value in [None, -1, 13, True, "1", (0,)]:
                with self.assertRaises(errors.BadTicks):
                    call(machine, "room", value)
        for value in [None, (), [1], (1, 1), (True,), (-1,), 1]:
            with self.assertRaises(errors.BadHousehold):
                escapes.safe_for(machine, "room", value)
        for value in [None, -1, len(machine), True]:
            with self.assertRaises(errors.BadNumber):
                escapes.free_areas(machine, value, None)
        for value in [None, "attic", ["out"], "any"]:
            with self.assertRaises(errors.BadArea):
                escapes.free_areas(machine, 0, value)
        self.assertEqual(escapes.free_areas(machine, 0, "out"), ["out"])

    def test_tables_with_too_many(self):
        """Four toggles, three timers, and a door that is free for a tick: thousands of places, each with a crowd."""
        text = four_thousand(False)
        made = text[5] + ((("card", "door", "any", "any"), ("is", "smoke:room", "no"), (("let", "door", "free"),)),
                          (("tick",), ("always",), (("let", "door", "shut"),)))
        machine = machines.Machine(text[:5] + (made,), ("world", ("room",), (0, 1, 5), (), 0))
        for call, rest in [(escapes.safe_after, ()), (escapes.safe_for, ((1,),)), (escapes.shut_in, (12,))]:
            with self.assertRaises(errors.TooMany) as caught:
                call(machine, "room", *rest)
            self.assertEqual(caught.exception.most, 1000)
        with self.assertRaises(errors.BadHousehold):
            escapes.safe_for(machine, "room", None)


if __name__ == "__main__":
    unittest.main()
