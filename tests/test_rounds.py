"""[24], [26]: what signals do by themselves, and single rounds."""
import unittest

from helper import BEGIN, Plain, RINGS, TEXT, put, random_standing, random_text, seeded
from housekept import errors, rounds, rules


class Rounds(unittest.TestCase):
    def test_by_itself(self):
        free = put(put(BEGIN, (0, 0), "free"), (0, 1), "free")
        for standing, signal, behind, more in [
                (BEGIN, ("card", "front", 0, "guest"), BEGIN, []), (BEGIN, ("button", 1), BEGIN, []),
                (BEGIN, ("smoke", "lab", "yes"), put(BEGIN, (0, 3), "yes"), [("becomes", "smoke:lab", "yes")]),
                (BEGIN, ("smoke", "lab", "no"), BEGIN, []),
                (free, ("pass", "front", 1), put(free, (0, 0), "shut"), [("becomes", "front", "shut")]),
                (free, ("pass", "inner", 0), free, []),
                (put(BEGIN, (3, 0), "free"), ("pass", "front", 0), put(BEGIN, (3, 0), "free"), []),
                (put(free, (3, 0), "free"), ("pass", "front", 0), put(put(free, (3, 0), "free"), (0, 0), "shut"),
                 [("becomes", "front", "shut")]),
                (free, ("stuck", "inner"), put(free, (3, 1), "free"), []),
                (BEGIN, ("stuck", "inner"), put(BEGIN, (3, 1), "shut"), []),
                (put(free, (3, 1), "shut"), ("mended", "inner"), free, []),
                (put(BEGIN, (1, 0), 3), ("tick",), put(BEGIN, (1, 0), 2), []),
                (put(BEGIN, (1, 0), 1), ("tick",), BEGIN, [("ran", "lamp")]), (BEGIN, ("tick",), BEGIN, [])]:
            self.assertEqual(rounds.by_itself(TEXT, standing, signal), (behind, [signal] + more))

    def test_void_signals(self):
        free = put(BEGIN, (0, 0), "free")
        for standing, signal in [(BEGIN, ("pass", "front", 0)), (put(free, (3, 0), "shut"), ("pass", "front", 1)),
                                 (put(BEGIN, (3, 1), "free"), ("stuck", "inner")), (BEGIN, ("mended", "front"))]:
            self.assertEqual(rounds.by_itself(TEXT, standing, signal), (standing, []))

    def test_several_timers_run_in_order(self):
        text = ("text", TEXT[1], (), (("b", 2), ("a", 2)), (), TEXT[5][:1])
        standing = (BEGIN[0][:4], (1, 1), (), (None, None))
        self.assertEqual(rounds.by_itself(text, standing, ("tick",)),
                         ((BEGIN[0][:4], (None, None), (), (None, None)), [("tick",), ("ran", "b"), ("ran", "a")]))

    def test_once(self):
        card = ("card", "front", 0, "guest")
        free = put(BEGIN, (0, 0), "free")
        self.assertEqual(rounds.once(TEXT, BEGIN, [card], True), (free, (0,), []))
        self.assertEqual(rounds.once(TEXT, BEGIN, [card], False), (BEGIN, (), []))
        self.assertEqual(rounds.once(TEXT, BEGIN, [], True), (BEGIN, (), []))
        self.assertEqual(rounds.once(TEXT, free, [("becomes", "front", "free")], False),
                         (put(put(free, (1, 0), 3), (2, 0), 1), (2,), []))
        self.assertEqual(rounds.once(TEXT, BEGIN, [("ran", "lamp"), ("button", 1), ("smoke", "hall", "yes")], False),
                         (put(put(BEGIN, (0, 4), "night"), (0, 1), "free"), (3, 5, 7),
                          [(3, 7, ("variable", "front"))]))

    def test_clashes_stand_by_the_rules_not_done_then_by_their_deeds(self):
        tick = ("tick",)
        text = ("text", TEXT[1], (("x", ("a", "b", "c")),), (("t", 5),), (("k", 5),), (
            (tick, ("always",), (("let", "x", "a"), ("start", "t", 2), ("say", 7))),
            (tick, ("always",), (("more", "k"), ("start", "t", 2), ("let", "x", "b"), ("say", 7))),
            (tick, ("always",), (("less", "k"), ("stop", "t"), ("let", "x", "a"))),
            (tick, ("always",), (("start", "t", 3), ("let", "x", "c"), ("more", "k")))))
        begin = rules.begin(text)
        behind, fired, clashes = rounds.once(text, put(begin, (0, 4), "c"), [tick], False)
        self.assertEqual(behind, (begin[0][:4] + ("a",), (2,), (1,), (None, None)))
        self.assertEqual(fired, (0, 1, 2, 3))
        x, t, k = ("variable", "x"), ("timer", "t"), ("counter", "k")
        self.assertEqual(clashes, [(0, 1, x), (1, 2, k), (0, 2, t), (0, 3, t), (0, 3, x)])

    def test_more_and_less_stay_within_bounds(self):
        up = ("text", TEXT[1], (), (), (("k", 1), ("m", 2)), (
            (("button", 0), ("always",), (("more", "k"), ("less", "m"))),
            (("button", 0), ("least", "k", 1), (("more", "k"),))))
        standing = (BEGIN[0][:4], (), (1, 0), (None, None))
        self.assertEqual(rounds.once(up, standing, [("button", 0)], False), (standing, (0, 1), []))

    def test_start_gives_a_running_timer_new_ticks_and_stop_stops_it(self):
        text = ("text", TEXT[1], (), (("t", 5),), (), ((("button", 0), ("always",), (("start", "t", 2),)),
                                                       (("button", 1), ("always",), (("stop", "t"),))))
        standing = (BEGIN[0][:4], (4,), (), (None, None))
        self.assertEqual(rounds.once(text, standing, [("button", 0)], False)[0][1], (2,))
        self.assertEqual(rounds.once(text, standing, [("button", 1)], False)[0][1], (None,))

    def test_right_holds_in_all_rounds_or_never(self):
        text = TEXT[:5] + (((("becomes", "mode", "any"), ("right",), (("let", "inner", "free"),)),),)
        told = [("becomes", "mode", "night")]
        self.assertEqual(rounds.once(text, BEGIN, told, True)[1], (0,))
        self.assertEqual(rounds.once(text, BEGIN, told, False)[1], ())

    def test_told_next(self):
        other = (("free", "shut", "yes", "no", "night"), (3,), (2,), ("shut", None))
        self.assertEqual(rounds.told_next(TEXT, BEGIN, BEGIN), [])
        self.assertEqual(rounds.told_next(TEXT, BEGIN, other), [("becomes", "front", "free"),
                                                                ("becomes", "smoke:hall", "yes"),
                                                                ("becomes", "mode", "night")])
        self.assertEqual(rounds.told_next(TEXT, other, BEGIN), [("becomes", "front", "shut"),
                                                                ("becomes", "smoke:hall", "no"),
                                                                ("becomes", "mode", "day")])

    def test_wrong_told_things(self):
        tick = ("tick",)
        for told in ([tick, tick], [("card", "any", 0, "guest")], [("becomes", "mode", "any")], [("ran", "seen")],
                     [("card", "front", True, "guest")], tick, {tick: tick}, [["tick"]], [("becomes", "front", "day")]):
            with self.assertRaises(errors.BadTold):
                rounds.once(TEXT, BEGIN, told, True)
        for right in (None, 0, 1, "yes"):
            with self.assertRaises(errors.BadRight):
                rounds.once(TEXT, BEGIN, [tick], right)

    def test_against_a_plain_second_way(self):
        for seed in range(120):
            rand = seeded(seed)
            text = random_text(rand)
            plain = Plain(text)
            signals = rules.signals(text)
            for _ in range(10):
                standing, other = random_standing(rand, text), random_standing(rand, text)
                state = plain.opened(standing)
                signal = rand.choice(signals)
                own = (standing, [])
                if not plain.void(state, signal):
                    new, told = plain.itself(state, signal)
                    own = (plain.closed(new), told)
                self.assertEqual(rounds.by_itself(text, standing, signal), own)
                things = [signal] + [("ran", name) for name in plain.timers]
                things += [("becomes", name, rand.choice(worths)) for name, worths in plain.names.items()]
                told = rand.sample(things, rand.randint(0, len(things)))
                right = rand.random() < 0.5
                new, fired, clashes, _ = plain.round(state, told, right)
                self.assertEqual(rounds.once(text, standing, told, right), (plain.closed(new), fired, clashes))
                self.assertEqual(rounds.told_next(text, standing, other), plain.becoming(state, plain.opened(other)))

    def test_endless_text_by_single_rounds(self):
        standing = rules.begin(RINGS)
        on = rounds.once(RINGS, standing, [("button", 3)], False)[0]
        off = rounds.once(RINGS, on, rounds.told_next(RINGS, standing, on), False)[0]
        self.assertEqual(off, standing)


if __name__ == "__main__":
    unittest.main()
