"""A calendar's courses, against lots of standings carried along for hundreds of years."""
import unittest

import helper
from helper import PLAIN, SMALL, Plain, put, ring_of, seeded
from housekept import calendars, days, errors, judging, machines, modes, rules, wheels
from test_wheels import NIGHT, SPLIT, constant, random_plan

WORLD = ("world", (), (0, 1, 2), (), 0)


def year_modes(wheel, year):
    """The modes of a year, one behind another, with the (date, hour) at which they begin."""
    number, found = days.number_of((year, 1, 1)), []
    specials = dict(wheel[2][days.KINDS.index(days.kind_of(year))])
    while number <= days.number_of((year, 12, 31)):
        date = days.date_of(number)
        for hour, mode in specials.get(date[1:], wheel[1][number % 7]):
            if not found or found[-1][1] != mode:
                found.append(((date, hour), mode))
        number += 1
    return found


class Slow:
    """All standings that come, by steps of one signal, over so many years."""

    def __init__(self, machine, wheel, buttons, many):
        self.machine, self.buttons = machine, buttons
        barred = [("button", button) for button in buttons.values()]
        self.free = [signal for signal in machine.signals if signal not in barred]
        kinds, known = {}, {}
        met, here, mode = set(), frozenset(), None
        for year in range(1, many + 1):
            kind = days.kind_of(year)
            if kind not in kinds:
                kinds[kind] = [name for _, name in year_modes(wheel, year)]
            for name in kinds[kind]:
                key = (name, name != mode, here)
                if key not in known:
                    behind = {self.press(at, name) for at in here} if name != mode else here
                    known[key] = frozenset(self.closed(behind | {self.press(0, name)}))
                here = known[key]
                met |= here
                mode = name
        self.met = met

    def press(self, at, mode):
        return self.machine.after(at, ("button", self.buttons[mode]))[0]

    def closed(self, lot):
        order = list(lot)
        for at in order:
            for signal in self.free:
                behind = self.machine.after(at, signal)[0]
                if behind not in order:
                    order.append(behind)
        return set(order)


def plain_end(machine, wheel, buttons, journey):
    """The end of a journey, change by change as the wheel tells them."""
    date, hour, parts = journey
    plain = Plain(machine.text)
    mode = calendars.mode_in(wheels.wheel_plan(wheel, date), hour)
    standing = plain.account(rules.begin(machine.text), ("button", buttons[mode]))[0]
    for changes, row in parts:
        for _ in range(changes):
            date, hour = wheels.next_change(wheel, date, hour)
            mode = calendars.mode_in(wheels.wheel_plan(wheel, date), hour)
            standing = plain.account(standing, ("button", buttons[mode]))[0]
        for signal in row:
            standing = plain.account(standing, signal)[0]
    return machine.number(standing)


def all_of_standing(machine, at):
    """A question that holds at one standing alone, or nearly."""
    scope = machine.slots.scope
    values, timers, counters, _ = machine.standing(at)
    parts = [("is", name, worth) for name, worth in zip(scope.worths, values)]
    parts += [("running", name) if left else ("not", ("running", name)) for name, left in zip(scope.timers, timers)]
    for name, many in zip(scope.counters, counters):
        parts += [("least", name, many)] if many else []
        parts += [("not", ("least", name, many + 1))] if many < scope.counters[name] else []
    return helper.all_of(parts)


def stepping(rand):
    """Buttons that lead from value to value; in some texts a card or a tick does something, too."""
    worths = ("p", "q", "r", "s")
    made = []
    for button in range(3):
        for one in worths:
            made.append((("button", button), ("is", "v", one), (("let", "v", rand.choice(worths)),)))
            two = rand.choice(worths)
            made.append((("button", button), ("both", ("is", "w", one), ("is", "v", two)), (("let", "w", rand.choice(worths)),)))
    if rand.random() < 0.3:
        made.append((("tick",), ("both", ("is", "w", "q"), ("is", "v", "q")), (("let", "w", rand.choice(worths)),)))
    return ("text", SMALL, (("v", worths), ("w", worths)), (), (), tuple(made))


def counting_text(cap):
    """Button 1 counts; button 0 does nothing; no other signal does."""
    return ("text", SMALL, (), (), (("times", cap),), ((("button", 1), ("always",), (("more", "times"),)),))


class Modes(unittest.TestCase):
    def samples(self, seed, many):
        rand = seeded(seed)
        found = 0
        while found < many:
            text = stepping(rand)
            machine = machines.Machine(text, WORLD)
            plain = rand.choice([NIGHT, NIGHT, random_plan(rand, "abc", 2)])
            whens = [("date", 2, 29), ("nth", 2, 3, 5), ("moved", ("date", 6, 1), 2, 1), ("date", 1, 1)]
            wheel = constant(rand.choice([plain, ((0, "a"),)]), *[(when, random_plan(rand, "abc", 2)) for when in rand.sample(whens, rand.randint(0, 3))])
            names = wheels.modes_of(wheel)
            if len(machine) < 3 or len(names) > 3:
                continue
            found += 1
            yield rand, machine, wheel, dict(zip(names, rand.sample([0, 1, 2], len(names))))

    def test_against_hundreds_of_years(self):
        seen = {True: 0, False: 0}
        for rand, machine, wheel, buttons in self.samples(1, 40):
            slow = Slow(machine, wheel, buttons, 450 if rand.random() < 0.3 else 60)
            for at in rand.sample(range(len(machine)), min(6, len(machine))):
                question = all_of_standing(machine, at)
                goal = {one for one in range(len(machine)) if judging.holds(machine, one, question)}
                journey = modes.calendar_meets(machine, wheel, buttons, question)
                if goal & slow.met:
                    self.assertIsNotNone(journey)
                if journey is not None:
                    end = modes.journey_end(machine, wheel, buttons, journey)
                    self.assertIn(end, goal)
                    if sum(changes for changes, _ in journey[2]) < 12:
                        self.assertEqual(plain_end(machine, wheel, buttons, journey), end)
                if journey is None or len(slow.met) < len(machine):
                    seen[journey is not None] += 1
                if journey is None:
                    self.assertFalse(goal & slow.met)
        self.assertGreater(min(seen.values()), 15, seen)

    def test_journeys_step_by_step(self):
        for rand, machine, wheel, buttons in self.samples(2, 12):
            free = [signal for signal in machine.signals if signal not in [("button", button) for button in buttons.values()]]
            moves = modes.Changes(wheel).many > 0
            for _ in range(3):
                date = days.date_of(rand.choice([rand.randint(0, 3 * 10 ** 6), rand.randint(0, days.number_of((10 ** 29, 1, 1)))]))
                parts = [(rand.choice([0, 1, 3, 9]) if moves else 0, [rand.choice(free) for _ in range(rand.randint(0, 3))])
                         for _ in range(rand.randint(1, 4))]
                journey = (date, rand.randint(0, 23), parts)
                self.assertEqual(modes.journey_end(machine, wheel, buttons, journey), plain_end(machine, wheel, buttons, journey))

    def test_by_hand(self):
        text = counting_text(3)
        machine = machines.Machine(text, WORLD)
        wheel = constant(NIGHT, (("date", 2, 29), SPLIT))
        buttons = {"night": 0, "day": 1}
        question = ("least", "times", 3)
        journey = modes.calendar_meets(machine, wheel, buttons, question)
        self.assertEqual(modes.journey_end(machine, wheel, buttons, journey), machine.number(machine.standing(3)))
        self.assertEqual(plain_end(machine, wheel, buttons, journey), 3)
        self.assertEqual(modes.journey_end(machine, wheel, buttons, ((1, 1, 1), 0, [(0, [])])), 0)
        self.assertEqual(modes.journey_end(machine, wheel, buttons, ((4, 2, 29), 6, [(0, [])])), 1)
        self.assertEqual(modes.journey_end(machine, wheel, buttons, ((4, 2, 29), 22, [(0, [])])), 0)
        self.assertEqual(modes.journey_end(machine, wheel, buttons, ((4, 2, 29), 5, [(1, []), (2, [("tick",)])])), 2)
        # With free buttons the count goes by itself, or the mode whose button counts never comes.
        self.assertEqual(len(modes.calendar_meets(machine, wheel, {"night": 0, "day": 2}, question)), 3)
        self.assertIsNone(modes.calendar_meets(machine, constant(NIGHT), {"night": 1}, ("least", "times", 2)))
        self.assertIsNotNone(modes.calendar_meets(machine, constant(NIGHT), {"night": 1}, ("least", "times", 1)))
        # Behind the first button the standing 0 is gone.
        self.assertIsNone(modes.calendar_meets(machine, constant(NIGHT), {"night": 1}, ("not", ("least", "times", 1))))

    def test_a_mode_that_comes_once_in_a_while(self):
        """Five leap years that begin with a Monday: more than a hundred years."""
        machine = machines.Machine(counting_text(5), ("world", (), (0, 1), (), 0))
        leap = constant(NIGHT, (("date", 2, 29), SPLIT))
        rare = put(leap, (2,), tuple(row if days.KINDS[at] == (0, "leap") else () for at, row in enumerate(leap[2])))
        journey = modes.calendar_meets(machine, rare, {"night": 0, "day": 1}, ("least", "times", 5))
        self.assertEqual(modes.journey_end(machine, rare, {"night": 0, "day": 1}, journey), 5)
        self.assertEqual(plain_end(machine, rare, {"night": 0, "day": 1}, journey), 5)
        # A mode that is never in force, though a rule tells it: an earlier rule takes its day.
        never = constant(NIGHT, (("date", 2, 29), SPLIT), (("date", 2, 29), ((0, "ghost"),)))
        self.assertEqual(sorted(wheels.modes_of(never)), ["day", "night"])

    def test_a_counter_of_years(self):
        """A ring of 300 standings that goes on once a year: the last one comes behind 299 years."""
        text = ring_of(300)
        made = tuple((("button", 1),) + rule[1:] if rule[0] == ("tick",) else rule for rule in text[5])
        machine = machines.Machine(text[:5] + (made,), ("world", (), (0, 1), (), 0))
        self.assertEqual(len(machine), 300)
        wheel = constant(NIGHT, (("date", 5, 5), ((0, "night"), (3, "day"), (4, "night"))))
        buttons = {"night": 0, "day": 1}
        question = all_of_standing(machine, 299)
        journey = modes.calendar_meets(machine, wheel, buttons, question)
        self.assertEqual(modes.journey_end(machine, wheel, buttons, journey), 299)
        self.assertGreaterEqual(sum(changes for changes, _ in journey[2]), 2 * 298)
        with self.assertRaises(errors.TooMany) as caught:
            modes.calendar_meets(machines.Machine(ring_of(301), ("world", (), (0, 1), (), 0)), wheel, buttons, question)
        self.assertEqual(caught.exception.most, 300)
        # A journey may be of a greater machine.
        self.assertEqual(modes.journey_end(machines.Machine(ring_of(301), ("world", (), (0, 1), (), 0)), wheel, buttons,
                                           ((1, 1, 1), 0, [(5, [("tick",)] * 7)])), 7)

    def test_a_million_changes(self):
        text = ring_of(7)
        made = tuple((("button", 1),) + rule[1:] if rule[0] == ("tick",) else rule for rule in text[5])
        machine = machines.Machine(text[:5] + (made,), ("world", (), (0, 1), (), 0))
        once = constant(NIGHT, (("date", 2, 29), ((0, "night"), (3, "day"), (4, "night"))))
        buttons = {"night": 0, "day": 1}
        for wheel in (once, constant(SPLIT)):
            journey = ((10 ** 30, 1, 1), 0, [(10 ** 6, [])] * 400)
            # Each second change is one to the day.
            self.assertEqual(modes.journey_end(machine, wheel, buttons, journey), 2 * 10 ** 8 % 7)
            self.assertEqual(modes.journey_end(machine, wheel, buttons, ((10 ** 30, 1, 1), 0, ((999999, []), (0, [])))), 500000 % 7)

    def test_wrong_buttons_and_wheels(self):
        machine = machines.Machine(counting_text(3), ("world", (), (0, 1), (), 0))
        wheel = constant(SPLIT)
        right = {"night": 0, "day": 1}
        for buttons in [{"night": 0}, {**right, "more": 3}, {"night": 0, "day": 0}, {"night": 0, "day": 2}, {"night": False, "day": 1},
                        {"night": 0, "day": "1"}, {"night": 0, "dax": 1}, list(right), None, (), {}, {"night": 0, 1: 1}]:
            with self.assertRaises(errors.BadButtons):
                modes.calendar_meets(machine, wheel, buttons, None)
            with self.assertRaises(errors.BadButtons):
                modes.journey_end(machine, wheel, buttons, None)
        dated = constant(SPLIT, dates=[((5, 5, 5), NIGHT)])
        for value in [dated, None, wheel[:3], put(wheel, (1, 0), NIGHT[:0])]:
            for call in (modes.calendar_meets, modes.journey_end):
                with self.assertRaises(errors.BadWheel):
                    call(machine, value, None, None)
        for question in (None, ("right",), ("is", "times", 1), ("least", "times", 4), ()):
            with self.assertRaises(errors.BadQuestion):
                modes.calendar_meets(machine, wheel, right, question)
        # BadQuestion comes ahead of TooMany.
        with self.assertRaises(errors.BadQuestion):
            modes.calendar_meets(machines.Machine(ring_of(301), ("world", (), (0, 1), (), 0)), wheel, right, None)

    def test_wrong_journeys(self):
        machine = machines.Machine(counting_text(3), ("world", (), (0, 1, 2), (), 0))
        wheel, right = constant(SPLIT), {"night": 0, "day": 1}
        journey = ((2026, 11, 20), 5, [(10 ** 6, [("tick",), ("button", 2)]), (0, ())])
        modes.journey_end(machine, wheel, right, journey)
        modes.journey_end(machine, wheel, right, put(journey, (2,), tuple(journey[2])))
        wrong = [put(journey, (2, 0, 0), value) for value in (-1, 10 ** 6 + 1, True, None)]
        wrong += [put(journey, (2, 0, 1), value) for value in (None, [("button", 0)], [("button", 1)], [("button", 3)], [["tick"]], ["tick"])]
        wrong += [put(journey, (2, 0), [0, []]), put(journey, (2, 0), (0,)), put(journey, (2,), []), put(journey, (2,), ()),
                  put(journey, (1,), 24), put(journey, (1,), True), put(journey, (0,), (2026, 2, 29)), put(journey, (0,), None),
                  list(journey), journey[:2], None, (), {}]
        for value in wrong + helper.any_values():
            with self.assertRaises(errors.BadJourney, msg=str(value)[:80]):
                modes.journey_end(machine, wheel, right, value)
        # Where the mode never changes no change comes.
        quiet = constant(NIGHT)
        self.assertEqual(modes.journey_end(machine, quiet, {"night": 1}, ((1, 1, 1), 0, [(0, []), (0, [("tick",)])])), 1)
        with self.assertRaises(errors.BadJourney):
            modes.journey_end(machine, quiet, {"night": 1}, ((1, 1, 1), 0, [(1, [])]))
        self.assertEqual(PLAIN[0], "text")

    def test_largest(self):
        """Twenty-four changes a day, and a machine of three hundred standings that all signals move."""
        text = ring_of(300)
        made = tuple((("button", 1),) + rule[1:] if rule[0] == ("tick",) else rule for rule in text[5])
        machine = machines.Machine(text[:5] + (made,), ("world", (), (0, 1, 2), (), 0))
        hours = tuple((hour, "ab"[hour % 2]) for hour in range(24))
        wheel = ("wheel", (hours,) * 7, ((),) * 28, ())
        journey = modes.calendar_meets(machine, wheel, {"a": 0, "b": 1}, all_of_standing(machine, 299))
        self.assertEqual(modes.journey_end(machine, wheel, {"a": 0, "b": 1}, journey), 299)
        self.assertIsNone(modes.calendar_meets(machine, wheel, {"a": 0, "b": 1}, ("is", "door", "free")))


if __name__ == "__main__":
    unittest.main()
