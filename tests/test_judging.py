"""[33], [34]: questions, and what rules do at the standings of a machine."""
import itertools
import unittest

from helper import (BUTTONS, HOUSE, PLAIN, Plain, RINGS, TEXT, WORLD, four_thousand, random_condition, random_standing,
                    random_text, random_world, seeded)
from housekept import errors, judging, least, machines, meaning

ALWAYS = ("always",)
RINGED = ("world", (), (2, 3), ("inner",), 1)


def nested(deep):
    return ALWAYS if deep == 1 else ("not", nested(deep - 1))


def without_right(condition):
    """A condition made a question."""
    if condition[0] in ("not", "both", "either"):
        return condition[:1] + tuple(without_right(part) for part in condition[1:])
    return ("stands", "a", "free") if condition == ("right",) else condition


class Questions(unittest.TestCase):
    def test_by_hand(self):
        machine = machines.Machine(TEXT, WORLD)
        free = ("stands", "inner", "free")
        self.assertIs(judging.holds(machine, 0, free), False)
        self.assertEqual(judging.met(machine, free), [("card", "inner", 0, "staff")])
        self.assertEqual(judging.met(machine, ("stands", "inner", "shut")), [])
        self.assertEqual(judging.met(machine, ("both", free, ("is", "inner", "shut"))),
                         [("card", "inner", 0, "staff"), ("stuck", "inner"), ("pass", "inner", 0)])
        self.assertEqual(judging.met(machine, ("least", "seen", 2)), [
            ("card", "front", 0, "guest"), ("pass", "front", 0), ("card", "front", 0, "guest")])
        self.assertIsNone(judging.met(machine, ("is", "smoke:hall", "yes")))
        self.assertIs(judging.always(machine, ("is", "smoke:hall", "no")), True)
        self.assertIs(judging.always(machine, ("not", free)), False)
        self.assertIs(judging.always(machine, ALWAYS), True)

    def test_edges(self):
        machine = machines.Machine(TEXT, WORLD)
        for question in (nested(6), ("running", "lamp"), ("least", "seen", 2), ("stands", "front", "shut"),
                         ("both", nested(5), ("either", nested(4), ("stands", "front", "free")))):
            self.assertIs(type(judging.holds(machine, 0, question)), bool)
        for question in (nested(7), ("right",), ("not", ("right",)), ("stands", "hall", "free"), ("stands", "front"),
                         ("stands", "front", "any"), ("least", "seen", 3), ("least", "seen", True), ["always"],
                         ("both", ALWAYS, nested(6)), ("running", "seen"), ("is", "mode", "shut")):
            for call in (judging.met, judging.always, lambda one, two: judging.holds(one, 0, two)):
                with self.assertRaises(errors.BadQuestion):
                    call(machine, question)
        with self.assertRaises(errors.BadNumber):
            judging.holds(machine, len(machine), None)

    def test_against_a_plain_second_way(self):
        for seed in range(60):
            rand = seeded(seed)
            text = random_text(rand, many=10)
            plain = Plain(text)
            machine = machines.Machine(text, random_world(rand, text))
            timers, counters = list(text[3]), list(text[4])
            for _ in range(5):
                question = without_right(random_condition(rand, plain.names, timers, counters, 4))
                held = [plain.true(plain.opened(machine.standing(at)), question, False) for at in range(len(machine))]
                self.assertEqual([judging.holds(machine, at, question) for at in range(len(machine))], held)
                self.assertIs(judging.always(machine, question), all(held))
                row = machines.way(machine, held.index(True)) if True in held else None
                self.assertEqual(judging.met(machine, question), row)


class Rules(unittest.TestCase):
    def test_by_hand(self):
        machine = machines.Machine(RINGS, RINGED)
        self.assertEqual(judging.fires(machine), {0: [("button", 2)], 1: [("button", 2)], 2: [("button", 3)],
                                                  3: [("button", 3)], 4: [("button", 3)]})
        self.assertEqual(judging.clashes(machine), {(0, 1): [("button", 2)]})
        self.assertEqual(judging.endless(machine), [("button", 3)])
        quiet = machines.Machine(TEXT, ("world", (), (), (), 0))
        self.assertEqual(list(judging.fires(quiet)), [0, 1, 2, 3, 4])
        self.assertEqual(judging.clashes(quiet), {})
        self.assertIsNone(judging.endless(quiet))
        self.assertIsNone(judging.two_orders(quiet))

    def test_two_orders_by_hand(self):
        machine = machines.Machine(RINGS, RINGED)
        row, one, other = judging.two_orders(machine)
        self.assertEqual(row, [("button", 2)])
        self.assertEqual((sorted(one), sorted(other)), ([0, 1, 2, 3, 4], [0, 1, 2, 3, 4]))
        self.assertNotEqual(one.index(0) < one.index(1), other.index(0) < other.index(1))

    def firsts(self, machine):
        """The first rows by which rules fire, clash, and signals are endless, from accounts along the walk."""
        signals = machines.signals_in(machine.text, machine.world)
        fired, clashed, endless = {}, {}, None
        for at in range(len(machine)):
            for signal in signals:
                stuck = sum(how is not None for how in machine.standing(at)[3])
                if signal[0] == "stuck" and stuck >= machine.world[4]:
                    continue
                account = meaning.meaning(machine.text, machine.standing(at), signal)
                row = machines.way(machine, at) + [signal]
                for _, lot in account[1]:
                    for rule in lot:
                        fired.setdefault(rule, row)
                for _, done, left, _ in account[3]:
                    clashed.setdefault((done, left), row)
                if account[4] and endless is None:
                    endless = row
        return fired, clashed, endless

    def test_against_a_plain_second_way(self):
        clashing = ringing = 0
        for seed in range(150):
            rand = seeded(seed)
            text = random_text(rand) if seed else RINGS
            start = random_standing(rand, text) if seed % 2 else None
            machine = machines.Machine(text, random_world(rand, text) if seed else RINGED, start=start)
            if len(machine) > 100:
                continue
            fired, clashed, endless = self.firsts(machine)
            self.assertEqual(judging.fires(machine), fired)
            self.assertEqual(list(judging.fires(machine)), sorted(fired))
            self.assertEqual(judging.clashes(machine), clashed)
            self.assertEqual(list(judging.clashes(machine)), sorted(clashed))
            self.assertEqual(judging.endless(machine), endless)
            self.check_orders(machine, clashed)
            clashing += bool(clashed)
            ringing += endless is not None
        self.assertGreater(clashing, 5)
        self.assertGreater(ringing, 0)

    def check_orders(self, machine, clashed):
        told = judging.two_orders(machine)
        if not clashed:
            self.assertIsNone(told)
            return
        row, one, other = told
        signals = machines.signals_in(machine.text, machine.world)
        least_row = min(clashed.values(), key=lambda way: (len(way), [signals.index(signal) for signal in way]))
        self.assertEqual(row, least_row)
        start = machine.standing(0)
        accounts = []
        for order in (one, other):
            account = meaning.run(meaning.reordered(machine.text, order), start, row)[-1]
            rounds = [(things, sorted(order[rule] for rule in lot)) for things, lot in account[1]]
            clashing = [(at, order[done], order[left], thing) for at, done, left, thing in account[3]]
            accounts.append((account[0], rounds, account[2], clashing, account[4]))
        self.assertNotEqual(accounts[0], accounts[1])

    def test_start_counts(self):
        start = meaning.behind(TEXT, [("card", "front", 0, "guest")])
        machine = machines.Machine(TEXT, ("world", (), (), (), 0), start=start)
        self.assertEqual(judging.fires(machine)[3], [("tick",)] * 3)
        self.assertEqual(judging.met(machine, ("stands", "front", "free")), [])


class Without(unittest.TestCase):
    def test_without(self):
        self.assertEqual(judging.without(PLAIN, [1]), PLAIN[:5] + ((PLAIN[5][0], PLAIN[5][2]),))
        self.assertEqual(judging.without(PLAIN, (0, 2)), PLAIN[:5] + ((PLAIN[5][1],),))
        self.assertEqual(judging.without(PLAIN, []), PLAIN)
        for lot in ([0, 1, 2], [1, 0], [1, 1], [3], [-1], [True], 1, {1: 1}, ["1"]):
            with self.assertRaises(errors.BadLot):
                judging.without(PLAIN, lot)

    def test_can_go_by_hand(self):
        tick, go = ("tick",), ("button", 0)
        free, shut = (("let", "inner", "free"),), (("let", "inner", "shut"),)
        text = ("text", HOUSE, (), (), (), (
            (go, ALWAYS, free), (go, ("not", ("is", "inner", "free")), free), (tick, ALWAYS, shut),
            (("button", 1), ALWAYS, (("say", 1),)), (("smoke", "any", "any"), ALWAYS, (("say", 2),))))
        world = ("world", (), (0, 1), (), 0)
        self.assertEqual(judging.can_go(text, world, ("doors",), [0, 1, 2, 3, 4]),
                         [(0,), (1,), (3,), (4,), (0, 3), (0, 4), (1, 3), (1, 4), (3, 4), (0, 3, 4), (1, 3, 4)])
        self.assertEqual(judging.can_go(text, world, ("doors", "words"), [0, 1, 3, 4]),
                         [(0,), (1,), (4,), (0, 4), (1, 4)])
        self.assertEqual(judging.can_go(text, world, ("endless",), (2, 3)), [(2,), (3,), (2, 3)])

    def test_lots_can_go_although_a_part_cannot(self):
        go, on = ("button", 0), ("becomes", "flag", "on")
        text = ("text", HOUSE, (("flag", ("off", "on")),), (), (), (
            (go, ALWAYS, (("let", "flag", "on"),)),
            (on, ALWAYS, (("let", "inner", "free"),)),
            (on, ALWAYS, (("let", "inner", "shut"),)),
            (("tick",), ALWAYS, (("say", 1),))))
        found = judging.can_go(text, ("world", (), (0,), (), 0), ("doors",), [1, 2])
        self.assertEqual(found, [(2,)])
        turned = meaning.reordered(text, (0, 2, 1, 3))
        self.assertEqual(judging.can_go(turned, ("world", (), (0,), (), 0), ("doors",), [1, 2]), [(2,), (1, 2)])

    def test_not_all_rules_go(self):
        self.assertEqual(judging.can_go(PLAIN, ("world", (), (), (), 0), ("words",), [0, 1, 2]),
                         [(0,), (1,), (2,), (0, 1), (0, 2), (1, 2)])

    def test_wrong_lots(self):
        world = ("world", (), (), (), 0)
        for some in ([], [0, 0], [1, 0], [3], [True], 0, [-1]):
            with self.assertRaises(errors.BadLot):
                judging.can_go(PLAIN, world, ("doors",), some)
        many = PLAIN[:5] + (PLAIN[5] * 4,)
        with self.assertRaises(errors.BadLot):
            judging.can_go(many, world, ("doors",), [0, 1, 2, 3, 4, 5, 6])
        self.assertEqual(len(judging.can_go(many, world, ("doors",), [6, 7, 8, 9, 10, 11])), 63)

    def test_errors_as_they_come(self):
        more = four_thousand(True)
        many = len(more[5])
        with self.assertRaises(errors.TooMany):
            judging.can_go(more, BUTTONS, ("doors",), [many - 1])
        held = more[:5] + (((("button", 0), ALWAYS, (("let", "v", "a"),)),) + more[5],)
        self.assertLess(len(machines.Machine(held, BUTTONS)), 4001)
        with self.assertRaises(errors.TooMany):
            judging.can_go(held, BUTTONS, ("doors",), [0])

    def test_against_a_plain_second_way(self):
        gone = 0
        for seed in range(25):
            rand = seeded(seed)
            text = random_text(rand, many=8)
            world, looks = random_world(rand, text), rand.choice([("doors",), ("words",), ("doors", "endless", "words")])
            some = sorted(rand.sample(range(len(text[5])), rand.randint(1, min(4, len(text[5])))))
            whole = machines.Machine(text, world)
            found = []
            for many in range(1, len(some) + 1):
                for lot in itertools.combinations(some, many):
                    if many < len(text[5]):
                        other = machines.Machine(judging.without(text, list(lot)), world)
                        if least.least(whole, looks) == least.least(other, looks):
                            found.append(lot)
            self.assertEqual(judging.can_go(text, world, looks, some), found)
            gone += len(found)
        self.assertGreater(gone, 10)


class Commute(unittest.TestCase):
    def test_by_hand(self):
        machine = machines.Machine(TEXT, WORLD)
        card = ("card", "front", 0, "guest")
        self.assertIsNone(judging.commute(machine, card, ("button", 1)))
        self.assertIsNone(judging.commute(machine, card, card))
        self.assertEqual(judging.commute(machine, card, ("pass", "front", 0)), 0)
        self.assertEqual(judging.commute(machine, card, ("tick",)), 0)
        for one, other in ((card, ("button", 0)), (("button", True), card), (card, ("card", "any", 0, "guest"))):
            with self.assertRaises(errors.BadSignal):
                judging.commute(machine, one, other)

    def test_against_a_plain_second_way(self):
        apart = 0
        for seed in range(40):
            rand = seeded(seed)
            text = random_text(rand, many=8)
            machine = machines.Machine(text, random_world(rand, text))
            signals = machines.signals_in(text, machine.world)
            for _ in range(6):
                one, other = rand.choice(signals), rand.choice(signals)
                unlike = [at for at in range(len(machine)) if machine.after(machine.after(at, one)[0], other)[0]
                          != machine.after(machine.after(at, other)[0], one)[0]]
                self.assertEqual(judging.commute(machine, one, other), unlike[0] if unlike else None)
                apart += bool(unlike)
        self.assertGreater(apart, 2)


if __name__ == "__main__":
    unittest.main()
