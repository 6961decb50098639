"""Storms and guarded buildings, against moments with their real ages, tick by tick."""
import itertools
import unittest

import helper
from helper import BUTTONS, SMALL, TEXT, WORLD, four_thousand, random_building, random_text, ring_of, seeded
from housekept import alarms, errors, guarded, machines, meaning, rules, storms

DOZY = ("watch", ((1, 1, 2), (4, 3, 1)), (("ann", 2), ("bob", 0)), 1, 2, "keep")


def random_watch(rand, guards=3):
    words = sorted(rand.sample(range(10), rand.randint(1, 2)))
    rows = tuple((word, rand.randint(1, 2), rand.randint(1, 2)) for word in words)
    lot = tuple((name, rand.randint(0, 2)) for name in ("ann", "bob", "cy")[:rand.randint(1, guards)])
    return ("watch", rows, lot, rand.randint(0, len(lot)), rand.randint(1, 2), rand.choice(["keep", "pass"]))


def subsets(items):
    return [lot for size in range(len(items) + 1) for lot in itertools.combinations(items, size)]


def sleepers(watch, standing):
    able = [at for at, (_, most) in enumerate(watch[2]) if 0 <= standing[1][at] < most]
    return [lot for lot in subsets(able) if len(lot) <= watch[3]]


def ticks(watch, standing):
    return [(words, lot) for words in subsets([row[0] for row in watch[1]]) for lot in sleepers(watch, standing)]


def quiet(watch):
    return ((), (0,) * len(watch[2]))


def first_waits(watch, word, most):
    """The longest wait of an alarm by real ages; None if one is open for most ticks, which is for ever."""
    met, todo, longest = {quiet(watch)}, [quiet(watch)], 0
    for standing in todo:
        for words, lot in ticks(watch, standing):
            behind, answers, _ = alarms.watch_tick(watch, standing, words, lot)
            longest = max([longest] + [wait for one, _, wait in answers if one == word])
            # Other alarms may be open for ever: their ages are cut.
            real = dict(behind[0])
            short = alarms.shortened(watch, behind)
            behind = (tuple((one, real[one] if one == word else age) for one, age in short[0]), short[1])
            if real.get(word, 0) > most:
                return None
            if behind not in met:
                met.add(behind)
                todo.append(behind)
    return longest


class Storms(unittest.TestCase):
    def test_against_real_ages(self):
        rand = seeded(1)
        seen = {}
        while sum(seen.values()) < 90:
            watch = random_watch(rand)
            try:
                storm = storms.Storm(watch)
            except errors.TooMany:
                continue
            self.assertEqual(storm.watch, watch)
            met, todo = {quiet(watch)}, [quiet(watch)]
            for standing in todo:
                for words, lot in ticks(watch, standing):
                    behind = alarms.shortened(watch, alarms.watch_tick(watch, standing, words, lot)[0])
                    if behind not in met:
                        met.add(behind)
                        todo.append(behind)
            self.assertEqual(len(storm), len(met))
            if len(storm) > 60:
                continue
            for word, _, _ in watch[1]:
                want = first_waits(watch, word, len(storm) + 2)
                self.assertEqual(storm.longest(word), want, (watch, word))
                seen[want] = seen.get(want, 0) + 1
                self.check_course(watch, word, want, storm.course(word))
        self.assertTrue({None, 0, 1, 2, 3} <= set(seen), seen)

    def check_course(self, watch, word, want, course):
        if want is not None:
            found, _ = alarms.watched(watch, course)
            self.assertIn((word, want), [(one, wait) for one, _, wait in found[-1][0]])
            return
        ahead, ring = course
        self.assertTrue(ring)
        _, begun = alarms.watched(watch, ahead)
        for many in range(1, len(ring) + 1):
            _, standing = alarms.watched(watch, ahead + ring[:many])
            self.assertIn(word, dict(standing[0]))
        self.assertEqual(alarms.shortened(watch, standing), alarms.shortened(watch, begun))
        _, later = alarms.watched(watch, ahead + ring * 5)
        self.assertEqual(dict(later[0])[word], dict(begun[0])[word] + 5 * len(ring))

    def test_by_hand(self):
        # Nobody sleeps: guard 0 answers at once, if not taken by the word of greater rank.
        calm = ("watch", ((2, 1, 1), (5, 2, 1)), (("ann", 0),), 0, 3, "keep")
        storm = storms.Storm(calm)
        # Ever again the other word is answered ahead of it.
        self.assertIsNone(storm.longest(2))
        # Somebody who has just answered is taken for two ticks more; at the third one the word is answered.
        self.assertEqual(storm.longest(5), 2)
        equal = ("watch", ((2, 2, 1), (5, 2, 1)), (("ann", 0),), 0, 1, "keep")
        # Of equal rank the earlier one is answered first, then the other one; folded words open none.
        self.assertEqual([storms.Storm(equal).longest(word) for word in (2, 5)], [1, 1])
        alone = ("watch", ((2, 1, 1),), (("ann", 0),), 0, 1, "pass")
        self.assertEqual((storms.Storm(alone).longest(2), storms.Storm(alone).course(2), len(storms.Storm(alone))), (0, [((2,), ())], 1))
        lone = ("watch", ((7, 3, 4),), (("ann", 4), ("bob", 4)), 1, 1, "keep")
        # One sleeps for four ticks, from 0 on; then it is shown to the other one, too.
        self.assertEqual(storms.Storm(lone).longest(7), 4)

    def test_too_many(self):
        just = ("watch", ((0, 1, 2),), (("a", 2), ("b", 3), ("c", 4)), 2, 3, "pass")
        self.assertEqual(len(storms.Storm(just)), 300)
        self.check_course(just, 0, storms.Storm(just).longest(0), storms.Storm(just).course(0))
        more = ("watch", ((0, 1, 1),), (("a", 3), ("b", 3), ("c", 3)), 3, 3, "keep")
        with self.assertRaises(errors.TooMany) as caught:
            storms.Storm(more)
        self.assertEqual(caught.exception.most, 300)
        great = ("watch", ((1, 1, 4), (2, 2, 3), (3, 3, 2)), (("a", 4), ("b", 4), ("c", 4)), 3, 3, "pass")
        with self.assertRaises(errors.TooMany) as caught:
            storms.Storm(great)
        self.assertEqual(caught.exception.most, 300)
        rand = seeded(2)
        near = 0
        while near < 4:
            watch = random_watch(rand)
            try:
                near += len(storms.Storm(watch)) > 150
            except errors.TooMany:
                near += 1

    def test_errors(self):
        for value in helper.any_values() + [DOZY[:5] + ("keeps",), DOZY[:3] + (True,) + DOZY[4:]]:
            with self.assertRaises(errors.BadWatch):
                storms.Storm(value)
        storm = storms.Storm(watch=DOZY)
        for value in helper.any_values() + [0, 5, True, "1", (1,)]:
            for call in (storm.longest, storm.course):
                with self.assertRaises(errors.BadAlarm):
                    call(value)
        self.assertEqual(storm.longest(word=1), storm.longest(1))
        for value in helper.any_values() + [DOZY, len(storm), storms.Storm(DOZY)]:
            self.assertFalse(storm == value)
        for call in (iter, list):
            with self.assertRaises(TypeError):
                call(storm)
        storm.course(1).append(3)
        self.assertNotIn(3, storm.course(1))


def random_guarded(rand):
    text = random_text(rand, random_building(rand, 2, 1, 1), 8, 2)
    said = tuple((("button", at), rand.choice([("always",), ("is", text[1][2][0][0], "free")]), (("say", rand.randint(0, 2)),)) for at in (0, 1))
    said += ((("tick",), ("is", text[1][2][0][0], rand.choice(["shut", "free"])), (("say", rand.randint(0, 2)),)),)
    said = rand.sample(said, rand.randint(1, 3))
    for name, most in text[3]:
        said += [(("button", 0), rand.choice([("always",), ("not", ("running", name))]), (("start", name, most),)),
                 (("ran", name), ("always",), (("say", rand.randint(0, 2)),))]
    text = text[:5] + (tuple(said) + text[5],)
    watch = ("watch", tuple((word, rand.randint(1, 2), rand.randint(1, 2)) for word in (0, 1, 2)[:rand.randint(1, 3)]),
             tuple((name, rand.randint(0, 2)) for name in ("ann", "bob")[:rand.randint(1, 2)]), 0, rand.randint(1, 2), rand.choice(["keep", "pass"]))
    watch = watch[:3] + (rand.randint(0, len(watch[2])),) + watch[4:]
    machine = machines.Machine(text, ("world", (), (0, 1), (), 0))
    signals = [signal for signal in machine.signals if signal != ("tick",)]
    return machine, watch, tuple(rand.sample(signals, rand.randint(0, 3)))


class Building:
    """[114] over standings of the text and of the watch."""

    def __init__(self, machine, watch, others):
        self.machine, self.watch, self.others = machine, watch, others
        self.first = (machine.standing(0), quiet(watch))
        self.steps = {}
        todo = [self.first]
        for pair in todo:
            self.steps[pair] = list(self.nexts(pair))
            todo.extend({behind for _, behind, _, _ in self.steps[pair]} - set(todo))

    def tick(self, pair, signal):
        row = [("tick",)] if signal is None else [signal, ("tick",)]
        accounts = meaning.run(self.machine.text, pair[0], row)
        return accounts[-1][0], tuple(sorted({word for account in accounts for word in account[2]}))

    def nexts(self, pair):
        """(move, next pair, words said, words answered)."""
        for signal in (None,) + self.others:
            standing, words = self.tick(pair, signal)
            for lot in sleepers(self.watch, pair[1]):
                behind, answers, _ = alarms.watch_tick(self.watch, pair[1], words, lot)
                yield (signal, lot), (standing, alarms.shortened(self.watch, behind)), words, [word for word, _, _ in answers]

    def latest(self, happens):
        """For each pair the longest it can be until something happens, None for ever: by so many steps."""
        longest = dict.fromkeys(self.steps, 0)
        for _ in range(len(self.steps) + 1):
            longest = {pair: max([0] + [1 + longest[step[1]] for step in steps if not happens(step)]) for pair, steps in self.steps.items()}
        return {pair: None if many > len(self.steps) else many for pair, many in longest.items()}

    def behind(self, signal, happens):
        latest = self.latest(happens)
        found = [0 if happens(step) else None if latest[step[1]] is None else 1 + latest[step[1]]
                 for steps in self.steps.values() for step in steps if step[0][0] == signal]
        return None if None in found else max(found)

    def longest(self, word):
        """The longest wait, following each alarm from where it is opened."""
        opened, stays = False, []
        open_pairs = {pair for pair in self.steps if word in dict(pair[1][0])}
        latest = {pair: 0 for pair in open_pairs}
        for _ in range(len(open_pairs) + 1):
            latest = {pair: max([0] + [1 + latest[step[1]] for step in self.steps[pair] if step[1] in open_pairs]) for pair in open_pairs}
        for pair, steps in self.steps.items():
            for _, behind, words, _ in steps:
                if pair not in open_pairs and word in words:
                    opened = True
                    if behind in open_pairs:
                        stays.append(1 + latest[behind])
        if not opened:
            return -1
        return None if max(stays + [0]) > len(open_pairs) else max(stays + [0])


class Guards(unittest.TestCase):
    def test_against_real_pairs(self):
        rand = seeded(3)
        seen, count = {"longest": set(), "said": set(), "answered": set()}, 0
        while count < 60:
            try:
                machine, watch, others = random_guarded(rand)
                made = guarded.Guarded(machine, watch, others)
            except (errors.TooMany, errors.TooLong):
                continue
            if len(made) > 40:
                continue
            count += 1
            second = Building(machine, watch, others)
            self.assertEqual(len(made), len(second.steps))
            for word, _, _ in watch[1]:
                self.assertEqual(made.longest(word), second.longest(word), (watch, word))
                seen["longest"].add(made.longest(word))
                for signal in others:
                    said = second.behind(signal, lambda step: word in step[2])
                    answered = second.behind(signal, lambda step: word in step[3])
                    self.assertEqual((made.said(signal, word), made.answered(signal, word)), (said, answered))
                    seen["said"].add(said)
                    seen["answered"].add(answered)
                    self.check_worst(second, signal, word, answered, made.worst(signal, word))
        self.assertTrue({-1, 0, 1} <= seen["longest"], seen)
        self.assertTrue({None, 0, 1} <= seen["said"] & seen["answered"], seen)

    def walked(self, second, moves):
        """The pairs, and what is answered, along moves from the beginning."""
        pair, pairs, answers = second.first, [second.first], []
        for move in moves:
            (step,) = [step for step in second.steps[pair] if step[0] == move]
            pair = step[1]
            pairs.append(pair)
            answers.append(step[3])
        return pairs, answers

    def check_worst(self, second, signal, word, many, shown):
        if many is not None:
            _, answers = self.walked(second, shown)
            self.assertEqual(shown[-many - 1][0], signal)
            self.assertEqual([word in lot for lot in answers[-many - 1:]], [False] * many + [True])
            return
        course, lead, ring = shown
        self.assertTrue(ring)
        self.assertEqual(course[-1][0], signal)
        pairs, answers = self.walked(second, course + lead + ring)
        self.assertFalse(any(word in lot for lot in answers[len(course) - 1:]))
        self.assertEqual(pairs[len(course) + len(lead)], pairs[-1])

    def test_by_hand(self):
        """Button 0 is said at once, button 1 behind three ticks; word 9 has no row, word 5 is never said."""
        text = ("text", SMALL, (), (("t", 3),), (), ((("button", 0), ("always",), (("say", 1), ("say", 9))),
                (("button", 1), ("not", ("running", "t")), (("start", "t", 3),)), (("ran", "t"), ("always",), (("say", 2),))))
        machine = machines.Machine(text, ("world", (), (0, 1), (), 0))
        watch = ("watch", ((1, 1, 1), (2, 1, 2), (5, 1, 1)), (("ann", 0), ("bob", 1)), 1, 1, "keep")
        made = guarded.Guarded(machine, watch, (("button", 0), ("button", 1)))
        self.assertEqual([made.longest(word) for word in (1, 2, 5)], [1, 1, -1])
        self.assertEqual(made.said(("button", 0), 1), 0)
        # The tick of the button's own move is the first one of three.
        self.assertEqual(made.said(("button", 1), 2), 2)
        self.assertIsNone(made.said(("button", 0), 2))
        self.assertIsNone(made.answered(("button", 0), 5))
        with self.assertRaises(errors.BadAlarm):
            made.said(("button", 0), 9)
        # Where one word of greater rank comes with each tick, another one is never answered.
        each = text[:5] + (text[5] + ((("tick",), ("always",), (("say", 5),)),),)
        busy = guarded.Guarded(machines.Machine(each, machine.world), ("watch", ((1, 1, 1), (5, 2, 1)), (("ann", 0),), 0, 1, "keep"), (("button", 0),))
        self.assertEqual((busy.longest(1), busy.longest(5), busy.said(("button", 0), 5)), (None, 0, 0))
        self.assertEqual((busy.answered(("button", 0), 5), busy.answered(("button", 0), 1)), (0, None))
        self.assertEqual(busy.worst(("button", 0), 5), [(("button", 0), ())])
        calm = guarded.Guarded(machine, watch, ())
        self.assertEqual((len(calm), calm.longest(1)), (2, -1))

    def test_endless_signals_say_nothing(self):
        machine = machines.Machine(helper.RINGS, ("world", (), (3,), (), 0))
        watch = ("watch", ((5, 1, 1),), (("ann", 0),), 0, 1, "keep")
        made = guarded.Guarded(machine, watch, (("button", 3),))
        self.assertEqual(made.longest(5), -1)
        self.assertIsNone(made.said(("button", 3), 5))

    def test_four_hundred_pairs_and_more(self):
        watch = ("watch", ((1, 1, 1),), (("ann", 0),), 0, 1, "keep")
        made = guarded.Guarded(machines.Machine(ring_of(400), BUTTONS), watch, (("button", 3),))
        self.assertEqual((len(made), made.longest(1), made.said(("button", 3), 1)), (400, -1, None))
        _, _, ring = made.worst(("button", 3), 1)
        self.assertEqual(len(ring), 400)
        with self.assertRaises(errors.TooMany) as caught:
            guarded.Guarded(machines.Machine(ring_of(401), BUTTONS), watch, ())
        self.assertEqual(caught.exception.most, 400)
        with self.assertRaises(errors.BadOthers):
            guarded.Guarded(machines.Machine(ring_of(401), BUTTONS), watch, None)
        # Five toggles, of which others press four alone.
        some = tuple(("button", at) for at in (0, 1, 2, 3))
        self.assertEqual(len(guarded.Guarded(machines.Machine(four_thousand(False), BUTTONS), watch, some)), 16)

    def test_errors(self):
        machine = machines.Machine(TEXT, WORLD)
        card, button = ("card", "front", 0, "guest"), ("button", 1)
        made = guarded.Guarded(machine=machine, watch=DOZY, others=(card, button))
        for value in helper.any_values():
            if not isinstance(value, machines.Machine):
                with self.assertRaises(errors.BadMachine):
                    guarded.Guarded(value, None, None)
            with self.assertRaises(errors.BadWatch):
                guarded.Guarded(machine, value, None)
            if value != ():
                with self.assertRaises(errors.BadOthers):
                    guarded.Guarded(machine, DOZY, value)
            for call in (made.said, made.answered, made.worst):
                with self.assertRaises(errors.BadSignal):
                    call(value, None)
                with self.assertRaises(errors.BadAlarm):
                    call(card, value)
            with self.assertRaises(errors.BadAlarm):
                made.longest(value)
        for others in [[card], (card, card), (("tick",),), (("button", 0),), (card, button, ("mended", "inner"), ("stuck", "inner"), ("smoke", "lab", "no")),
                       (list(card),), (("button", True),), (("smoke", "hall", "yes"),), (None,)]:
            with self.assertRaises(errors.BadOthers):
                guarded.Guarded(machine, DOZY, others)
        for signal in [("mended", "inner"), ("tick",), ("button", True), list(card), card[:3], ("card", "front", False, "guest")]:
            for call in (made.said, made.answered, made.worst):
                with self.assertRaises(errors.BadSignal):
                    call(signal, 1)
        self.assertFalse(made == guarded.Guarded(machine, DOZY, (card, button)))
        for call in (iter, list):
            with self.assertRaises(TypeError):
                call(made)
        self.assertEqual(rules.begin(TEXT), machine.standing(0))


if __name__ == "__main__":
    unittest.main()
