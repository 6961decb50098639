"""[30], [31]: worlds and machines."""
import itertools
import unittest

from helper import (BEGIN, BUTTONS, DIGITS, PLAIN, Plain, RINGS, SMALL, TEXT, WORLD, all_of, counted, counting,
                    digits_of, four_thousand, in_world, put, random_standing, random_text, random_world, seeded)
from housekept import errors, machines, meaning, rules

NOTHING = ("world", (), (), (), 0)


class Worlds(unittest.TestCase):
    def test_right_and_wrong_worlds(self):
        for world in (WORLD, NOTHING, ("world", ("hall", "lab"), (0, 5), ("front", "inner"), 2),
                      ("world", (), (0, 1, 2, 3, 4, 5), ("front",), 0)):
            self.assertIs(machines.is_world(TEXT, world), True)
        for world in (("word", (), (), (), 0), ("world", ("out",), (), (), 0), ("world", ("lab", "hall"), (), (), 0),
                      ("world", ("lab", "lab"), (), (), 0), ("world", (), (1, 0), (), 0), ("world", (), (1, 1), (), 0),
                      ("world", (), (6,), (), 0), ("world", (), (-1,), (), 0), ("world", (), (True,), (), 0),
                      ("world", (), (), ("inner", "front"), 1), ("world", (), (), ("inner",), 2), ("world", (), (), (), 1),
                      ("world", (), (), ("hall",), 0), ("world", (), (), (), -1), ("world", (), (), (), False),
                      ("world", [], (), (), 0), ("world", (), (), (), 0, 0), ["world", (), (), (), 0]):
            self.assertIs(machines.is_world(TEXT, world), False)

    def test_whole_world_and_signals(self):
        self.assertEqual(machines.whole_world(TEXT),
                         ("world", ("hall", "lab"), (0, 1, 2, 3, 4, 5), ("front", "inner"), 2))
        self.assertEqual(machines.signals_in(TEXT, machines.whole_world(TEXT)), rules.signals(TEXT))
        self.assertEqual(machines.signals_in(TEXT, WORLD)[8:], [
            ("pass", "front", 0), ("pass", "front", 1), ("pass", "inner", 0), ("pass", "inner", 1), ("smoke", "lab", "yes"),
            ("smoke", "lab", "no"), ("button", 1), ("stuck", "inner"), ("mended", "inner"), ("tick",)])
        self.assertEqual(machines.signals_in(PLAIN, NOTHING), [("card", "door", 0, "guest"), ("card", "door", 1, "guest"),
                                                               ("pass", "door", 0), ("pass", "door", 1), ("tick",)])


class Machines(unittest.TestCase):
    def test_by_hand(self):
        machine = machines.Machine(PLAIN, NOTHING)
        shut, free = (("shut", "no"), (), (), (None,)), (("free", "no"), (), (), (None,))
        self.assertEqual((machine.text, machine.world, len(machine)), (PLAIN, NOTHING, 2))
        self.assertEqual([machine.standing(0), machine.standing(1)], [shut, free])
        self.assertEqual([machine.number(shut), machine.number(free)], [0, 1])
        self.assertEqual(machine.after(0, ("card", "door", 0, "guest")), (1, (("free",), (), False)))
        self.assertEqual(machine.after(0, ("card", "door", 1, "guest")), (0, (("shut",), (), False)))
        self.assertEqual(machine.after(1, ("pass", "door", 1)), (0, (("shut",), (), False)))
        self.assertEqual(machine.after(0, ("pass", "door", 1)), (0, (("shut",), (), False)))
        self.assertEqual(machine.after(1, ("tick",)), (0, (("shut",), (), False)))
        self.assertEqual(machines.way(machine, 1), [("card", "door", 0, "guest")])
        self.assertEqual(machines.way(machine, 0), [])
        self.assertEqual(machines.answers(machine, [("card", "door", 0, "guest"), ("tick",)]),
                         [(("free",), (), False), (("shut",), (), False)])
        self.assertEqual(machines.answers(machine, []), [])

    def test_number_of_other_values(self):
        machine = machines.Machine(TEXT, WORLD)
        for value in (put(BEGIN, (2, 0), False), put(BEGIN, (0, 2), "yes"), list(BEGIN), put(BEGIN, (3, 0), "free"), 0, None):
            self.assertIsNone(machine.number(value))
        for at in (-1, len(machine), True, False, None, "0"):
            with self.assertRaises(errors.BadNumber):
                machine.standing(at)
        for signal in (("button", True), ("button", 0), ("smoke", "hall", "yes"), ("stuck", "front"), ["tick"]):
            with self.assertRaises(errors.BadSignal):
                machine.after(0, signal)
            with self.assertRaises(errors.BadRow):
                machines.answers(machine, [("tick",), signal])
        with self.assertRaises(errors.BadNumber):
            machine.after(len(machine), None)

    def test_answers_tell_words_and_endless_signals(self):
        machine = machines.Machine(RINGS, ("world", (), (2, 3), (), 0))
        self.assertEqual(machines.answers(machine, [("button", 3), ("button", 2)]),
                         [(("shut", "shut"), (), True), (("shut", "free"), (4,), False)])

    def test_doors_stand_as_they_are_stuck(self):
        machine = machines.Machine(TEXT, WORLD)
        row = [("stuck", "inner"), ("card", "inner", 0, "staff"), ("mended", "inner")]
        self.assertEqual([doors for doors, _, _ in machines.answers(machine, row)],
                         [("shut", "shut"), ("free", "shut"), ("free", "free")])

    def test_no_more_doors_are_stuck_than_faults(self):
        both = ("front", "inner")
        for faults, many in ((0, 0), (1, 1), (2, 2)):
            machine = machines.Machine(TEXT, ("world", (), (), both, faults))
            most = max(sum(how is not None for how in machine.standing(at)[3]) for at in range(len(machine)))
            self.assertEqual(most, many)
        start = put(put(BEGIN, (3, 0), "free"), (3, 1), "shut")
        machine = machines.Machine(TEXT, ("world", (), (), ("inner",), 1), start=start)
        self.assertEqual(machine.after(0, ("stuck", "inner"))[0], 0)
        mended = machine.after(0, ("mended", "inner"))[0]
        self.assertEqual(machine.standing(mended)[3], ("free", None))
        self.assertEqual(machine.after(mended, ("stuck", "inner")), (mended, (("free", "shut"), (), False)))

    def test_right_counts_in_later_rounds_too(self):
        made = ((("card", "any", "any", "any"), ("always",), (("let", "mode", "night"),)),
                (("becomes", "mode", "night"), ("not", ("not", ("right",))), (("let", "inner", "free"), ("say", 1))),
                (("tick",), ("always",), (("let", "mode", "day"), ("let", "inner", "shut"))))
        machine = machines.Machine(TEXT[:5] + (made,), ("world", (), (), (), 0))
        self.assertEqual(machine.after(0, ("card", "front", 0, "guest"))[1], (("shut", "free"), (1,), False))
        self.assertEqual(machine.after(0, ("card", "front", 1, "guest"))[1], (("shut", "shut"), (), False))
        self.assertEqual(machine.after(0, ("card", "front", 0, "staff"))[1], (("shut", "free"), (1,), False))

    def test_against_a_plain_walk(self):
        endless = 0
        for seed in range(120):
            rand = seeded(seed)
            text = random_text(rand)
            world = random_world(rand, text)
            start = random_standing(rand, text) if seed % 2 else None
            plain = Plain(text)
            met = plain.walk(world, start or rules.begin(text), 200)
            if met is None:
                continue
            signals, standings, parents, rows = met
            machine = machines.Machine(text, world, start=start)
            self.assertEqual([machine.standing(at) for at in range(len(machine))], standings)
            for at, row in enumerate(rows):
                for signal, (behind, account) in zip(signals, row):
                    doors = tuple(plain.stands(plain.opened(account[0]), door) for door in plain.doors)
                    self.assertEqual(machine.after(at, signal), (behind, (doors, account[2], account[4])))
                    endless += account[4]
                least = []
                here = at
                while parents[here] is not None:
                    here, signal = parents[here]
                    least = [signal] + least
                self.assertEqual(machines.way(machine, at), least)
        self.assertGreater(endless, 0)

    def test_ways_are_least_rows(self):
        machine = machines.Machine(TEXT, ("world", (), (1,), (), 0))
        signals = machines.signals_in(TEXT, ("world", (), (1,), (), 0))
        met = {}
        for many in range(4):
            for row in itertools.product(signals, repeat=many):
                met.setdefault(meaning.behind(TEXT, list(row)), list(row))
        self.assertGreater(len(met), 10)
        for standing, row in met.items():
            self.assertEqual(machines.way(machine, machine.number(standing)), row)


class Bounds(unittest.TestCase):
    def test_just_four_thousand_standings(self):
        machine = machines.Machine(four_thousand(False), BUTTONS)
        self.assertEqual(len(machine), 4000)
        self.assertEqual(len({machine.standing(at) for at in range(4000)}), 4000)

    def test_one_standing_more(self):
        with self.assertRaises(errors.TooMany) as caught:
            machines.Machine(four_thousand(True), BUTTONS)
        self.assertEqual(caught.exception.most, 4000)

    def test_rounds_just_long_enough_and_too_long(self):
        machine = machines.Machine(counting("c", 1000), ("world", (), (0,), (), 0))
        self.assertEqual(machine.after(0, ("button", 0)), (1, (("shut",), (), False)))
        with self.assertRaises(errors.TooLong) as caught:
            machines.Machine(counting("b", 1000), ("world", (), (0,), (), 0))
        self.assertEqual(caught.exception.most, 1000)
        self.assertEqual(len(machines.Machine(counting("b", 1000), NOTHING)), 1)

    def test_endless_at_the_last_round_that_is_let(self):
        start = (("shut", "no", "d", "a", "a", "a", "a"), (), (), (None,))
        machine = machines.Machine(counting("a", 998, "b"), ("world", (), (0,), (), 0), start=start)
        self.assertEqual(machine.after(0, ("button", 0)), (0, (("shut",), (), True)))
        with self.assertRaises(errors.TooLong):
            machines.Machine(counting("d", 1002, "b"), ("world", (), (0,), (), 0))

    def near_and_far(self, text, near):
        """The text with its counting at button 3, and at button 2 a start at a number near the end."""
        start, *rest = text[5]
        lets = [("let", name, worth) for name, worth in zip(DIGITS, digits_of(near))]
        made = [(("button", 3),) + start[1:]] + rest
        made.extend([(("button", 2), start[1], tuple(lets[:3])), (("button", 2), start[1], tuple(lets[3:]))])
        return text[:5] + (tuple(made),)

    def test_rounds_that_others_have_come_to_before(self):
        world = ("world", (), (2, 3), (), 0)
        for text, number, behind in [(counting("c", 1000), 0, 1000), (counting("a", 998, "b"), 3, None)]:
            for near in (988, 996, 997):
                if digits_of(near)[0] != digits_of(number)[0]:
                    machine = machines.Machine(self.near_and_far(text, near), world, start=counted(number))
                    end = counted(behind) if behind else counted(number)
                    for button in (2, 3):
                        at, answer = machine.after(0, ("button", button))
                        self.assertEqual((machine.standing(at), answer[2]), (end, behind is None))
        for text, number in ((counting("b", 1000), 0), (counting("d", 1002, "b"), 0)):
            for near in (989, 997):
                with self.assertRaises(errors.TooLong):
                    machines.Machine(self.near_and_far(text, near), world, start=counted(number))

    def two_errors(self, far):
        """A text with far more than 4000 standings that counts too long where its counters have come far."""
        chain = counting("b", 1000)
        start, *rest = chain[5]
        more = [("least", "m", 5)] + [("running", name) for name in "rst"]
        going = all_of([start[1], ("least", "k", 5)] + (more if far else []))
        made = [(start[0], going, start[2])] + rest
        made.append((("button", 1), ("not", ("least", "k", 5)), (("more", "k"),)))
        made.append((("button", 1), ("least", "k", 5), (("more", "m"),)))
        made.extend([(("button", at), ("always",), (("start", name, 12),)) for at, name in ((2, "r"), (3, "s"), (4, "t"))])
        return ("text", SMALL, chain[2], (("r", 12), ("s", 12), ("t", 12)), (("k", 5), ("m", 5)), tuple(made))

    def depth_of_the_last(self):
        """How many signals the 4001st standing of the text above is away: by a walk over its numbers alone."""
        met, layer, depth = {(0, 0, 0, 0, 0)}, [(0, 0, 0, 0, 0)], 0
        while len(met) <= 4000:
            depth += 1
            fresh = set()
            for r, s, t, k, m in layer:
                fresh |= {(r, s, t, min(5, k + 1), m + (k == 5 and m < 5)), (12, s, t, k, m), (r, 12, t, k, m),
                          (r, s, 12, k, m), (max(0, r - 1), max(0, s - 1), max(0, t - 1), k, m)}
            layer = sorted(fresh - met)
            met |= fresh
        return depth

    def test_of_the_two_errors_the_one_met_first(self):
        # The counting begins 5 signals away, or 13: ten of button 1, and all three timers.
        self.assertTrue(6 < self.depth_of_the_last() <= 13)
        for far, error in ((False, errors.TooLong), (True, errors.TooMany)):
            text = self.two_errors(far)
            self.assertIsNone(rules.fault(text))
            with self.assertRaises(error):
                machines.Machine(text, BUTTONS)

    def test_worlds_leave_signals_out(self):
        for seed in range(20):
            rand = seeded(seed)
            text = random_text(rand)
            world = random_world(rand, text)
            expected = [signal for signal in rules.signals(text) if in_world(signal, world)]
            self.assertEqual(machines.signals_in(text, world), expected)


if __name__ == "__main__":
    unittest.main()
