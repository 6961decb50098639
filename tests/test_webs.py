"""[35]: webs."""
import unittest

from helper import HOUSE, PLAIN, TEXT, WORLD, put
from housekept import errors, machines, webs

TICK = (("tick",), None, None, 0)
WEB = ("web", (0, 1), (
    ((("go", 1), ("guest", "out"), ("guest", "hall"), 1), (("go", 1), None, None, 2), TICK),
    ((("go", 1), ("guest", "hall"), ("guest", "hall"), 0), (("say", "a b", -5), None, None, 2)),
    ()))


class Webs(unittest.TestCase):
    def test_right_webs(self):
        for web in (WEB, ("web", (0,), ((),)), ("web", (2,), ((), (), (TICK,))), put(WEB, (1,), (0, 1, 2)),
                    put(WEB, (2, 0, 0, 0), ("", 10 ** 99)), put(WEB, (2, 0, 0), put(TICK, (3,), 2))):
            self.assertIs(webs.is_web(web), True)

    def test_wrong_webs(self):
        for path, new in [((0,), "net"), ((1,), ()), ((1,), (1, 0)), ((1,), (0, 0)), ((1,), (3,)), ((1,), (-1,)),
                          ((1,), (False,)), ((1,), [0]), ((2,), ()), ((2, 0, 0, 0), ()), ((2, 0, 0, 0), (1, "go")),
                          ((2, 0, 0, 0), ("go", None)), ((2, 0, 0, 0), ("go", True)), ((2, 0, 0, 0), ("go", (1,))),
                          ((2, 0, 0, 0), "go"), ((2, 0, 0, 1), None), ((2, 0, 0, 2), None), ((2, 0, 0, 1), ("staff", "out")),
                          ((2, 0, 0, 1), ("guest", "any")), ((2, 0, 0, 2), ("guest", "Hall")), ((2, 0, 0, 1), ("guest",)),
                          ((2, 0, 0, 1), ["guest", "out"]), ((2, 0, 0, 3), 3), ((2, 0, 0, 3), -1), ((2, 0, 0, 3), True),
                          ((2, 0, 0), TICK), ((2, 0, 0), TICK[:3]), ((2, 2), []), ((2, 2), None), ((2, 2), (None,))]:
            self.assertIs(webs.is_web(put(WEB, path, new)), False, (path, new))
        self.assertIs(webs.is_web(WEB + ((),)), False)

    def test_most_places(self):
        ring = tuple(((("tick",), None, None, (at + 1) % 20000),) for at in range(20000))
        self.assertIs(webs.is_web(("web", (0, 19999), ring)), True)
        self.assertIs(webs.is_web(("web", (0,), ring + ((),))), False)
        self.assertEqual(webs.places_of(("web", (0, 19999), ring), [("tick",)] * 20001), (0, 1))

    def test_web_of_by_hand(self):
        machine = machines.Machine(PLAIN, ("world", ("room",), (4,), (), 0))
        spots = [("guest", "out"), ("guest", "room")]
        web = webs.web_of(machine)
        self.assertEqual(web[:2], ("web", (0,)))
        self.assertEqual(web[2][0], (
            (("show", "guest", "door", 0), spots[0], spots[0], 1), (("show", "guest", "door", 1), spots[1], spots[1], 0),
            (("smoke", "room", "yes"), None, None, 2), (("smoke", "room", "no"), None, None, 0),
            (("button", 4), None, None, 0), (("tick",), None, None, 0)))
        self.assertEqual(web[2][1], (
            (("show", "guest", "door", 0), spots[0], spots[0], 1), (("show", "guest", "door", 1), spots[1], spots[1], 1),
            (("go", "guest", "door", 0), spots[0], spots[1], 0), (("go", "guest", "door", 1), spots[1], spots[0], 0),
            (("smoke", "room", "yes"), None, None, 3), (("smoke", "room", "no"), None, None, 1),
            (("button", 4), None, None, 1), (("tick",), None, None, 0)))

    def test_web_of_against_the_machine(self):
        machine = machines.Machine(TEXT, WORLD)
        web = webs.web_of(machine)
        self.assertIs(webs.is_web(web), True)
        self.assertEqual(len(web[2]), len(machine))
        doors = {door[0]: door for door in HOUSE[2]}
        for at, moves in enumerate(web[2]):
            worths, _, _, stuck = machine.standing(at)
            free = [name for place, name in enumerate(doors) if (stuck[place] or worths[place]) == "free"]
            rows = []
            for word, signal in (("show", "card"), ("go", "pass")):
                for kind in HOUSE[3]:
                    for name, door in doors.items():
                        for side in (0, 1):
                            if word == "show" or name in free:
                                told = (signal, name, side) + ((kind,) if word == "show" else ())
                                there = door[1 + side] if word == "show" else door[2 - side]
                                rows.append(((word, kind, name, side), (kind, door[1 + side]), (kind, there),
                                             machine.after(at, told)[0]))
            for signal in machines.signals_in(TEXT, WORLD):
                if signal[0] not in ("card", "pass"):
                    rows.append((signal, None, None, machine.after(at, signal)[0]))
            self.assertEqual(moves, tuple(rows))

    def test_places_of(self):
        self.assertEqual(webs.places_of(WEB, []), (0, 1))
        self.assertEqual(webs.places_of(WEB, [("go", 1)]), (0, 1, 2))
        self.assertEqual(webs.places_of(WEB, (("go", 1), ("tick",), ("go", 1))), (1, 2))
        self.assertEqual(webs.places_of(WEB, [("say", "a b", -5)]), (2,))

    def test_wrong_labels(self):
        for row, index in [(None, None), ({}, None), ("go", None), ([("stop",)], 0), ([("go", True)], 0), ([("go", 1), None], 1),
                           ([("say", "a b", -5), ("go", 1)], 1), ([["tick"]], 0), ([("tick",), ("tick",), ("go", 1), {}], 3),
                           ([()], 0), ([("go", [1])], 0), ([("go", 1, {})], 0)]:
            with self.assertRaises(errors.BadLabels) as caught:
                webs.places_of(WEB, row)
            self.assertEqual(caught.exception.index, index)


if __name__ == "__main__":
    unittest.main()
