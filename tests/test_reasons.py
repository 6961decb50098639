"""[28], [29]: reasons, and what signals can read and write."""
import itertools
import unittest

from helper import BEGIN, HOUSE, Plain, RINGS, TEXT, put, random_standing, random_text, seeded
from housekept import errors, meaning, reasons, rules

CARD = ("card", "front", 0, "guest")
KINDS = {"let": "variable", "start": "timer", "stop": "timer", "more": "counter", "less": "counter"}


def things_of(text):
    plain = Plain(text)
    return ([("variable", name) for name in plain.names] + [("timer", name) for name in plain.timers]
            + [("counter", name) for name in plain.counters])


def slow_reasons(text, standing, signal, thing):
    """All reasons, by trying all rows of pairs; None if there are too many to try."""
    plain = Plain(text)
    account = plain.account(standing, signal)
    if account[4] or not account[1]:
        return []
    state, _ = plain.itself(plain.opened(standing), signal)
    last, pairs, done = 0, [], None
    for at, (told, fired) in enumerate(account[1]):
        new, _, _, _ = plain.round(state, told, plain.right(signal))
        if new[thing[0]][thing[1]] != state[thing[0]][thing[1]]:
            last = at + 1
            done = [deed for rule in fired for deed in text[5][rule][2]
                    if deed[0] != "say" and (KINDS[deed[0]], deed[1]) == thing][0]
        pairs.append([(one, rule) for one in told for rule in fired if plain.fits(text[5][rule][0], one)])
        state = new
    if last == 0:
        return []
    found = []
    for chain in itertools.product(*pairs[:last]):
        links = all(("let",) + chain[at + 1][0][1:] in text[5][chain[at][1]][2] for at in range(last - 1))
        if links and done in text[5][chain[-1][1]][2]:
            found.append(chain)
    return found


class Reasons(unittest.TestCase):
    def test_by_hand(self):
        free = ("becomes", "front", "free")
        self.assertEqual(reasons.reason(TEXT, BEGIN, CARD, ("timer", "lamp")), ((CARD, 0), (free, 2)))
        self.assertEqual(reasons.reason(TEXT, BEGIN, CARD, ("variable", "front")), ((CARD, 0),))
        self.assertEqual(reasons.reason(TEXT, BEGIN, CARD, ("variable", "inner")), ())
        self.assertEqual(reasons.reason(TEXT, put(BEGIN, (0, 0), "free"), CARD, ("variable", "front")), ())
        self.assertEqual(reasons.reason(TEXT, BEGIN, ("pass", "front", 0), ("variable", "front")), ())
        self.assertEqual(reasons.reason(RINGS, rules.begin(RINGS), ("button", 3), ("variable", "flag")), ())

    def test_what_a_signal_does_by_itself_is_no_round(self):
        self.assertEqual(reasons.reason(TEXT, BEGIN, ("smoke", "lab", "yes"), ("variable", "smoke:lab")), ())

    def test_last_round_that_changes_counts_and_least_rules_win(self):
        go = ("button", 0)
        text = ("text", HOUSE, (("x", ("a", "b", "c")), ("y", ("a", "b"))), (), (), (
            (go, ("always",), (("let", "y", "b"),)),
            (go, ("always",), (("let", "x", "b"),)),
            (("becomes", "x", "any"), ("is", "x", "b"), (("let", "x", "c"),)),
            (("becomes", "y", "b"), ("always",), (("let", "x", "c"),)),
            (go, ("always",), (("let", "x", "b"), ("say", 1)))))
        begin = rules.begin(text)
        self.assertEqual(reasons.reason(text, begin, go, ("variable", "x")), ((go, 0), (("becomes", "y", "b"), 3)))
        good = [((go, 0), (("becomes", "y", "b"), 3)), ((go, 1), (("becomes", "x", "b"), 2)),
                ((go, 4), (("becomes", "x", "b"), 2))]
        for value in good:
            self.assertIs(reasons.is_reason(text, begin, go, ("variable", "x"), value), True)
        for value in ((), good[0][:1], good[0] + good[0][1:], ((go, 1), (("becomes", "y", "b"), 3)), list(good[0]),
                      ((go, 0), (("becomes", "x", "b"), 2)), ((go, False), (("becomes", "y", "b"), 3)),
                      ((go, 0), [("becomes", "y", "b"), 3]), ((["button", 0], 0), (("becomes", "y", "b"), 3)),
                      ((("button", False), 0), (("becomes", "y", "b"), 3)), ((go, 0), (("becomes", "y", "b"), 2)), None):
            self.assertIs(reasons.is_reason(text, begin, go, ("variable", "x"), value), False)

    def test_none_in_its_place(self):
        self.assertIs(reasons.is_reason(TEXT, BEGIN, CARD, ("variable", "inner"), ()), True)
        self.assertIs(reasons.is_reason(TEXT, BEGIN, CARD, ("variable", "inner"), []), False)
        self.assertIs(reasons.is_reason(TEXT, BEGIN, CARD, ("variable", "front"), ()), False)
        self.assertIs(reasons.is_reason(TEXT, BEGIN, CARD, ("variable", "inner"), ((CARD, 0),)), False)

    def test_wrong_things(self):
        for thing in (("stuck", "front"), ("variable", "lamp"), ("timer", "front"), ("counter",), ["variable", "front"],
                      ("variable", ["front"]), ("variable", "front", 1), "front"):
            with self.assertRaises(errors.BadThing):
                reasons.reason(TEXT, BEGIN, CARD, thing)

    def test_against_trying_all(self):
        longest = some = 0
        for seed in range(400):
            rand = seeded(seed)
            text = random_text(rand)
            for _ in range(6):
                standing, signal = random_standing(rand, text), rand.choice(rules.signals(text))
                for thing in things_of(text):
                    found = slow_reasons(text, standing, signal, thing)
                    told = reasons.reason(text, standing, signal, thing)
                    best = min(found, key=lambda chain: [rule for _, rule in chain]) if found else ()
                    self.assertEqual(told, best)
                    self.assertIs(reasons.is_reason(text, standing, signal, thing, told), True)
                    for chain in found[:5]:
                        self.assertIs(reasons.is_reason(text, standing, signal, thing, chain), True)
                        turned = chain[:-1] + ((chain[-1][0], (chain[-1][1] + 1) % len(text[5])),)
                        self.assertEqual(reasons.is_reason(text, standing, signal, thing, turned), turned in found)
                    longest = max(longest, len(told))
                    some += bool(found)
        self.assertGreater(longest, 2)
        self.assertGreater(some, 200)


def slow_reach(text, signal):
    plain = Plain(text)
    lot = set()
    for _ in text[5]:
        given = {("smoke:" + signal[1], signal[2])} if signal[0] == "smoke" else set()
        if signal[0] == "pass" and plain.doors[signal[1]][3] == "gate":
            given.add((signal[1], "shut"))
        given |= {deed[1:] for rule in lot for deed in text[5][rule][2] if deed[0] == "let"}
        for at, (when, _, _) in enumerate(text[5]):
            told = when[0] == "becomes" and any(when[1] == name and when[2] in ("any", worth) for name, worth in given)
            if told or plain.fits(when, signal) or (signal == ("tick",) and when[0] == "ran"):
                lot.add(at)
    return tuple(sorted(lot))


def inside(condition):
    if condition[0] in ("not", "both", "either"):
        return [thing for part in condition[1:] for thing in inside(part)]
    return [({"is": "variable", "least": "counter", "running": "timer"}[condition[0]], condition[1])] \
        if condition[0] in ("is", "least", "running") else []


def slow_writes(text, signal):
    plain = Plain(text)
    met = {(KINDS[deed[0]], deed[1]) for rule in slow_reach(text, signal) for deed in text[5][rule][2] if deed[0] != "say"}
    if signal[0] == "smoke":
        met.add(("variable", "smoke:" + signal[1]))
    if signal[0] == "pass" and plain.doors[signal[1]][3] == "gate":
        met.add(("variable", signal[1]))
    if signal[0] == "tick":
        met |= {("timer", name) for name in plain.timers}
    if signal[0] in ("stuck", "mended"):
        met.add(("stuck", signal[1]))
    return sorted(met)


def slow_reads(text, signal):
    met = set()
    for rule in slow_reach(text, signal):
        met |= set(inside(text[5][rule][1]))
        if text[5][rule][0][0] == "becomes":
            met.add(("variable", text[5][rule][0][1]))
    if signal[0] in ("pass", "stuck", "mended"):
        met |= {("variable", signal[1]), ("stuck", signal[1])}
    return sorted(met)


class Reach(unittest.TestCase):
    def test_by_hand(self):
        self.assertEqual(reasons.reach(TEXT, CARD), (0, 2))
        self.assertEqual(reasons.reach(TEXT, ("tick",)), (3,))
        self.assertEqual(reasons.reach(TEXT, ("smoke", "lab", "yes")), (2, 7))
        self.assertEqual(reasons.reach(TEXT, ("smoke", "lab", "no")), ())
        self.assertEqual(reasons.reach(TEXT, ("card", "inner", 1, "staff")), (0, 1, 2))
        self.assertEqual(reasons.writes(TEXT, CARD), [("counter", "seen"), ("timer", "lamp"), ("variable", "front")])
        self.assertEqual(reasons.reads(TEXT, CARD), [("variable", "front")])
        self.assertEqual(reasons.writes(TEXT, ("tick",)), [("timer", "lamp"), ("variable", "front")])
        self.assertEqual(reasons.reads(TEXT, ("button", 1)), [("variable", "mode")])
        self.assertEqual(reasons.writes(TEXT, ("pass", "front", 0)), [("variable", "front")])
        self.assertEqual(reasons.reads(TEXT, ("pass", "front", 0)), [("stuck", "front"), ("variable", "front")])
        self.assertEqual(reasons.writes(TEXT, ("stuck", "inner")), [("stuck", "inner")])
        self.assertEqual(reasons.reads(TEXT, ("mended", "inner")), [("stuck", "inner"), ("variable", "inner")])
        self.assertEqual(reasons.writes(TEXT, ("smoke", "hall", "no")), [("variable", "smoke:hall")])

    def test_apart(self):
        self.assertIs(reasons.apart(TEXT, CARD, ("button", 1)), True)
        self.assertIs(reasons.apart(TEXT, CARD, ("tick",)), False)
        self.assertIs(reasons.apart(TEXT, ("pass", "front", 0), ("pass", "inner", 0)), True)
        self.assertIs(reasons.apart(TEXT, ("pass", "inner", 0), ("stuck", "inner")), False)
        self.assertIs(reasons.apart(TEXT, ("button", 0), ("button", 0)), True)
        self.assertIs(reasons.apart(TEXT, ("button", 1), ("button", 1)), False)
        for one, other in ((CARD, None), (None, CARD), (CARD, ("button", True))):
            with self.assertRaises(errors.BadSignal):
                reasons.apart(TEXT, one, other)

    def test_against_a_plain_second_way(self):
        for seed in range(150):
            rand = seeded(seed)
            text = random_text(rand)
            signals = rules.signals(text)
            for signal in signals:
                self.assertEqual(reasons.reach(text, signal), slow_reach(text, signal))
                self.assertEqual(reasons.writes(text, signal), slow_writes(text, signal))
                self.assertEqual(reasons.reads(text, signal), slow_reads(text, signal))
            for one, other in zip(rand.sample(signals, 5), rand.sample(signals, 5)):
                writes, wrote = set(slow_writes(text, one)), set(slow_writes(text, other))
                far = not writes & (wrote | set(slow_reads(text, other))) and not wrote & set(slow_reads(text, one))
                self.assertIs(reasons.apart(text, one, other), far)

    def test_signals_apart_lead_to_the_same_in_either_sequence(self):
        far = 0
        for seed in range(200):
            rand = seeded(seed)
            text = random_text(rand, many=8)
            for _ in range(10):
                one, other = rand.sample(rules.signals(text), 2)
                if reasons.apart(text, one, other):
                    far += 1
                    standing = random_standing(rand, text)
                    ahead, back = meaning.run(text, standing, [one, other]), meaning.run(text, standing, [other, one])
                    self.assertEqual(ahead[1][0], back[1][0])
                    self.assertEqual(ahead[0][1:], back[1][1:])
                    self.assertEqual(ahead[1][1:], back[0][1:])
        self.assertGreater(far, 100)


if __name__ == "__main__":
    unittest.main()
