"""Exchange, against carrying by dicts, webs put together one by one, and tables of each of them."""
import itertools
import unittest

from helper import BUTTONS, HOUSE, SMALL, TEXT, Plain, all_of, four_thousand, put, random_building, random_standing
from helper import random_text, random_world, ring_of, seeded
from housekept import errors, exchange, households, judging, machines, promises, rules, webs

OLD = ("text", HOUSE, (("mode", ("day", "night", "late")), ("lost", ("a", "b"))), (("lamp", 6), ("gone", 2)),
       (("seen", 4), ("mode", 2))[:1], TEXT[5][:2])
NEW = ("text", HOUSE, (("lamp", ("on", "off")), ("mode", ("day", "late"))), (("gone", 5), ("seen", 3)),
       (("lost", 2),), TEXT[5][:2])


def second_carried(old, new, standing):
    """As [120] tells, over dicts."""
    one, other = Plain(old), Plain(new)
    state, fresh = one.opened(standing), other.opened(rules.begin(new))
    fixed = [name for name in other.names if name not in dict(new[2])]
    for name in other.names:
        if name in fixed or (name in dict(old[2]) and state["variable"][name] in other.names[name]):
            fresh["variable"][name] = state["variable"][name]
    for name, most in other.timers.items():
        left = state["timer"].get(name)
        fresh["timer"][name] = None if left is None else min(left, most)
    for name, cap in other.counters.items():
        fresh["counter"][name] = min(state["counter"].get(name, 0), cap)
    fresh["stuck"] = state["stuck"]
    return other.closed(fresh)


def samples(seed, many, most=25):
    """Pairs of texts of one building, a machine of the first, and a passage."""
    rand = seeded(seed)
    found = 0
    while found < many:
        building = random_building(rand, 3, 2, 2)
        old, new = [random_text(rand, building, 7, 2) for _ in range(2)]
        world = random_world(rand, old)
        try:
            machine = machines.Machine(old, world)
        except (errors.BadText, errors.TooLong, errors.TooMany):
            continue
        if rules.is_text(new) and len(machine) <= most:
            found += 1
            fixed = len(building[2]) + len(building[1]) - 1
            passage = {}
            for at in range(len(machine)):
                if rand.random() < 0.3:
                    standing, other = machine.standing(at), random_standing(rand, new)
                    passage[standing] = (standing[0][:fixed] + other[0][fixed:],) + other[1:3] + standing[3:]
            yield rand, machine, new, passage


class Carrying(unittest.TestCase):
    def test_by_hand(self):
        standing = (("free", "shut", "no", "yes", "night", "b"), (5, 1), (4,), (None, "free"))
        # mode's value is none of the new ones; lamp was a timer, lost a variable; gone keeps what is left.
        self.assertEqual(exchange.carried(OLD, NEW, standing),
                         (("free", "shut", "no", "yes", "on", "day"), (1, None), (0,), (None, "free")))
        self.assertEqual(exchange.carried(OLD, NEW, put(standing, (0, 4), "late"))[0][-2:], ("on", "late"))
        lesser = ("text", HOUSE, (), (("lamp", 2),), (("seen", 3),), NEW[5])
        self.assertEqual(exchange.carried(OLD, lesser, standing), (standing[0][:4], (2,), (3,), (None, "free")))
        self.assertEqual(exchange.carried(OLD, OLD, standing), standing)

    def test_against_dicts(self):
        for rand, machine, new, passage in samples(1, 60):
            for at in range(len(machine)):
                standing = machine.standing(at)
                want = second_carried(machine.text, new, standing)
                self.assertEqual(exchange.carried(machine.text, new, standing), want)
                self.assertTrue(rules.is_standing(new, want))
                self.assertEqual(exchange.goes_to(machine.text, new, passage, standing), passage.get(standing, want))
            self.assertIs(exchange.is_passage(machine.text, new, passage), True)

    def test_passages(self):
        one = rules.begin(OLD)
        other = exchange.carried(OLD, NEW, one)
        wrong = [None, [], (), {one: one}, {other: other}, {one: None}, {None: other}, {one: put(other, (0, 0), "free")},
                 {one: put(other, (0, 3), "yes")}, {one: put(other, (3, 1), "shut")}, {one: other, 3: other},
                 {one: list(other)}, {one: put(other, (2, 0), True)}, {put(one, (2, 0), False): other}]
        for value in wrong:
            self.assertIs(exchange.is_passage(OLD, NEW, value), False, value)
            with self.assertRaises(errors.BadPassage):
                exchange.goes_to(OLD, NEW, value, None)
        for value in [{}, {one: other}, {one: put(other, (1, 0), 5)}, {put(one, (2, 0), 4): put(other, (0, 4), "off")}]:
            self.assertIs(exchange.is_passage(OLD, NEW, value), True, value)
        with self.assertRaises(errors.BadStanding):
            exchange.goes_to(OLD, NEW, {}, other)

    def test_errors_in_their_order(self):
        small = ("text", SMALL, (), (), (), ((("tick",), ("always",), ()),))
        for call, rest in [(exchange.carried, 1), (exchange.is_passage, 1), (exchange.goes_to, 2)]:
            with self.assertRaises(errors.BadText):
                call(None, None, *[None] * rest)
            with self.assertRaises(errors.BadText):
                call(OLD, OLD[:5], *[None] * rest)
            with self.assertRaises(errors.UnlikeBuildings):
                call(OLD, small, *[None] * rest)
        with self.assertRaises(errors.BadStanding):
            exchange.carried(OLD, NEW, rules.begin(NEW))
        machine = machines.Machine(TEXT, BUTTONS)
        question, needs = ("stands", "front", "free"), (("any", "hall", 1),)
        rows = [(errors.BadMachine, (OLD, None, None, None, None)), (errors.BadText, (machine, None, None, None, None)),
                (errors.UnlikeBuildings, (machine, small, None, None, None)),
                (errors.BadPassage, (machine, NEW, [], None, None)),
                (errors.BadQuestion, (machine, NEW, {}, ("is", "lamp", "no"), None)),
                (errors.BadQuestion, (machine, NEW, {}, ("running", "lamp"), None)),
                (errors.BadNeeds, (machine, NEW, {}, ("is", "lamp", "on"), [])),
                (errors.BadNeeds, (machine, NEW, {}, question, needs * 3))]
        for error, args in rows:
            with self.assertRaises(error):
                exchange.bad_moments(*args)
            with self.assertRaises(error):
                exchange.good(*args, "nobody")
        for household in ["nobody", (1,), [1, 1], (True, 0), (-1, 0)]:
            with self.assertRaises(errors.BadHousehold):
                exchange.good(machine, NEW, {}, question, needs, household)


class Webs(unittest.TestCase):
    def test_against_machines(self):
        """The new part: from each image what a machine that starts there meets."""
        for _, machine, new, passage in samples(2, 50):
            try:
                web, at, standings = exchange.exchange_web(machine, new, passage)
            except errors.TooMany as error:
                self.assertEqual(error.most, 1000)
                continue
            many = len(machine)
            self.assertIs(webs.is_web(web), True)
            self.assertEqual((web[1], len(web[2])), ((0,), len(standings)))
            old = webs.web_of(machine)[2]
            self.assertEqual(list(standings[:many]), [machine.standing(one) for one in range(many)])
            images = [exchange.goes_to(machine.text, new, passage, standing) for standing in standings[:many]]
            self.assertEqual([standings[place] for place in at], images)
            self.assertEqual(list(standings[many:many + len(set(images))]), list(dict.fromkeys(images)))
            self.assertEqual(len(set(standings[many:])), len(standings) - many)
            for place in range(many):
                self.assertEqual(web[2][place], old[place] + ((("exchange",), None, None, at[place]),))
            todo = list(standings[many:many + len(set(images))])
            for standing in todo:
                place = many + standings[many:].index(standing)
                here = webs.web_of(machines.Machine(new, machine.world, start=standing))[2][0]
                near = machines.Machine(new, machine.world, start=standing)
                self.assertEqual([move[:3] + (standings[move[3]],) for move in web[2][place]],
                                 [move[:3] + (near.standing(move[3]),) for move in here])
                for move in web[2][place]:
                    self.assertGreaterEqual(move[3], many)
            met = list(range(many, many + len(set(images))))
            for place in met:
                met.extend(dict.fromkeys(move[3] for move in web[2][place] if move[3] not in met))
            self.assertEqual(met, list(range(many, len(standings))))

    def test_just_a_thousand_standings_of_the_new_text(self):
        machine = machines.Machine(("text", SMALL, (), (), (), ((("tick",), ("always",), ()),)), BUTTONS)
        for many in (1000, 1001):
            new = ring_of(many)
            self.assertEqual(len(machines.Machine(new, BUTTONS)), many)
            if many == 1000:
                web, at, standings = exchange.exchange_web(machine, new, {})
                self.assertEqual((len(web[2]), at, len(standings)), (1001, (1,), 1001))
                self.assertEqual(exchange.bad_moments(machine, new, {}, ("is", "door", "free"), (("guest", "room", 1),)), [[]])
                # A crowd for each place of the new text, and one for that of the old text, are one too many.
                less = (("is", "z", "d"), (("guest", "room", 1),))
                self.assertEqual(exchange.bad_moments(machine, ring_of(999), {}, *less), [[]])
                self.assertEqual(exchange.good(machine, ring_of(999), {}, ("always",), (), None), ())
                for call, rest in [(exchange.bad_moments, less), (exchange.good, (("always",), (), None))]:
                    with self.assertRaises(errors.TooMany) as caught:
                        call(machine, new, {}, *rest)
                    self.assertEqual(caught.exception.most, 1000)
            else:
                for call, rest in [(exchange.exchange_web, ()), (exchange.bad_moments, (("always",), ())), (exchange.good, (("always",), (), None))]:
                    with self.assertRaises(errors.TooMany) as caught:
                        call(machine, new, {}, *rest)
                    self.assertEqual(caught.exception.most, 1000)

    def test_a_thousand_standings_and_more(self):
        machine = machines.Machine(("text", SMALL, (), (), (), ((("tick",), ("always",), ()),)), BUTTONS)
        for toggles, timers in [(3, 3), (5, 3), (4, 3)]:
            text = four_thousand(False)
            made = tuple(rule for rule in text[5] if rule[2][0][1] in "rst"[:timers] + "vwxyz"[:toggles])
            new = text[:2] + (text[2][:toggles], text[3][:timers], (), made)
            if 2 ** toggles * 5 ** timers == 1000:
                self.assertEqual(len(exchange.exchange_web(machine, new, {})[2]), 1000 + len(machine))
            else:
                with self.assertRaises(errors.TooMany) as caught:
                    exchange.exchange_web(machine, new, {})
                self.assertEqual(caught.exception.most, 1000)


class Moments(unittest.TestCase):
    def second(self, machine, new, passage, question, needs):
        """A table of its own for the exchange at each standing."""
        web, _, standings = exchange.exchange_web(machine, new, passage)
        many = len(machine)
        near = {}
        for place in range(many, len(standings)):
            start = machines.Machine(new, machine.world, start=standings[place])
            near[place] = judging.holds(start, 0, question)
        places = tuple(place for place in near if near[place])
        found = []
        for at in range(many):
            moves = tuple(tuple(move for move in row if move[0] != ("exchange",) or place == at)
                          for place, row in enumerate(web[2]))
            found.append(households.households(machine.text[1], ("web", (0,), moves), ("never", places, needs)))
        return found

    def test_against_single_tables(self):
        harmed = some = 0
        for rand, machine, new, passage in samples(3, 70, 12):
            building = new[1]
            question = ("both", ("always",), ("stands", building[2][0][0], rand.choice(["shut", "free"])))
            needs = tuple((rand.choice(["any", "guest"]), rand.choice(building[1]), rand.randint(1, 2))
                          for _ in range(rand.randint(0, 2)))
            try:
                want = self.second(machine, new, passage, question, needs)
            except errors.TooMany:
                for call, rest in [(exchange.bad_moments, ()), (exchange.good, (None,))]:
                    with self.assertRaises(errors.TooMany):
                        call(machine, new, passage, question, needs, *rest)
                continue
            self.assertEqual(exchange.bad_moments(machine, new, passage, question, needs), want)
            harmed += any(want)
            some += any(want) and not all(want)
            for household in [None, (0, 0), (1, 0), (0, 2), (2, 2)]:
                good = tuple(at for at, lot in enumerate(want) if not any(
                    household is None or all(a <= b for a, b in zip(bad, household)) for bad, _ in lot))
                self.assertEqual(exchange.good(machine, new, passage, question, needs, household), good)
        self.assertGreater(harmed, 15)
        self.assertGreater(some, 1)

    def test_everybody_and_nobody(self):
        old = ("text", SMALL, (), (), (), ((("card", "door", "any", "any"), ("right",), (("let", "door", "free"),)),))
        new = old[:5] + (((("tick",), ("always",), (("let", "door", "shut"),)),),)
        machine = machines.Machine(old, ("world", (), (), (), 0))
        self.assertEqual(len(machine), 2)
        free = ("stands", "door", "free")
        # Right behind the exchange the door stands as it stood.
        found = exchange.bad_moments(machine, new, {}, free, ())
        self.assertEqual(found[0], [])
        (household, (begin, moves)), = found[1]
        self.assertEqual((household, begin), ((1,), 0))
        self.assertEqual([move[0] for move in moves], [("show", "guest", "door", 0), ("exchange",)])
        self.assertEqual(exchange.bad_moments(machine, new, {}, ("always",), ())[0],
                         [((0,), (0, [(("exchange",), None, None, 2)]))])
        self.assertEqual(exchange.good(machine, new, {}, free, (), (0,)), (0, 1))
        self.assertEqual(exchange.good(machine, new, {}, free, (), None), (0,))
        # Without anybody the door never is free.
        self.assertEqual(exchange.good(machine, new, {}, ("always",), (), (0,)), (1,))
        self.assertEqual(exchange.good(machine, new, {}, ("always",), (), (1,)), ())
        self.assertEqual(exchange.bad_moments(machine, new, {}, ("is", "smoke:room", "yes"), ()), [[], []])
        # Nobody but who was let in ahead can be in the room: two of them.
        inside = exchange.bad_moments(machine, new, {}, ("always",), (("guest", "room", 2),))
        self.assertEqual([[one for one, _ in lot] for lot in inside], [[], [(2,)]])

    def test_tables_with_too_many(self):
        old = ("text", HOUSE, (), (), (), TEXT[5][:2])
        machine = machines.Machine(TEXT, ("world", ("hall", "lab"), (1,), ("front", "inner"), 2))
        with self.assertRaises(errors.TooMany) as caught:
            exchange.bad_moments(machine, TEXT, {}, ("always",), (("any", "lab", 3), ("any", "hall", 3)))
        self.assertEqual(caught.exception.most, 1000)
        self.assertTrue(rules.is_text(old[:5] + (TEXT[5][1:2],)))


class Waits(unittest.TestCase):
    def second_wait(self, machine, some):
        """The standings at which a row with t ticks can be that has met none of some, t by t."""
        lot = {at for at in range(len(machine)) if at not in some}
        for ticks in itertools.count():
            todo = list(lot)
            for at in todo:
                for signal in machine.signals:
                    behind = machine.after(at, signal)[0]
                    if signal != ("tick",) and behind not in some and behind not in lot:
                        lot.add(behind)
                        todo.append(behind)
            if not lot:
                return ticks
            if ticks > len(machine):
                return None
            lot = {machine.after(at, ("tick",))[0] for at in lot} - set(some)

    def test_against_ticks_one_by_one(self):
        seen = {}
        for rand, machine, _, _ in samples(4, 80):
            for _ in range(6):
                share = rand.random()
                some = tuple(at for at in range(len(machine)) if rand.random() < share)
                want = self.second_wait(machine, some)
                seen[want] = seen.get(want, 0) + 1
                self.assertEqual(exchange.sure_wait(machine, some), want)
                shown = exchange.no_wait(machine, some)
                if want is not None:
                    self.assertIsNone(shown)
                    continue
                at, row, ring = shown
                self.assertIn(("tick",), ring)
                for signal in row:
                    self.assertNotIn(at, some)
                    at = machine.after(at, signal)[0]
                turn = at
                for signal in ring:
                    self.assertNotIn(at, some)
                    at = machine.after(at, signal)[0]
                self.assertEqual(at, turn)
        self.assertTrue({None, 0, 1} <= set(seen), seen)

    def test_by_hand(self):
        """A lamp that runs for 3 ticks: it is out behind 3 at the latest, unless it is lit again."""
        text = ("text", SMALL, (), (("lamp", 3),), (),
                ((("button", 0), ("not", ("running", "lamp")), (("start", "lamp", 3),)),))
        machine = machines.Machine(text, ("world", (), (0,), (), 0))
        dark = promises.places_where(machine, ("not", ("running", "lamp")))
        self.assertEqual(exchange.sure_wait(machine, dark), 3)
        self.assertEqual(exchange.sure_wait(machine, tuple(range(4))), 0)
        self.assertIsNone(exchange.sure_wait(machine, ()))
        self.assertIsNone(exchange.no_wait(machine, dark))
        # Nobody has to press the button.
        self.assertIsNone(exchange.sure_wait(machine, promises.places_where(machine, ("running", "lamp"))))
        at, row, ring = exchange.no_wait(machine, promises.places_where(machine, ("running", "lamp")))
        self.assertEqual((machine.standing(at)[1], row, ring), ((None,), [], [("tick",)]))

    def test_wrong_numbers(self):
        machine = machines.Machine(TEXT, ("world", (), (), (), 0))
        for some in [None, [], [0], (0, 0), (1, 0), (True,), (-1,), (len(machine),), ((0,),), {0: 1}, "01"]:
            for call in (exchange.sure_wait, exchange.no_wait):
                with self.assertRaises(errors.BadNumbers):
                    call(machine, some)
                with self.assertRaises(errors.BadMachine):
                    call(None, some)

    def test_great_machine(self):
        machine = machines.Machine(four_thousand(False), BUTTONS)
        shut = promises.places_where(machine, all_of([("running", name) for name in "rst"]))
        self.assertIsNone(exchange.sure_wait(machine, shut))
        self.assertIn(("tick",), exchange.no_wait(machine, shut)[2])
        idle = promises.places_where(machine, ("not", ("running", "t")))
        self.assertIsNone(exchange.sure_wait(machine, idle))
        self.assertEqual(exchange.sure_wait(machine, tuple(range(4000))), 0)


if __name__ == "__main__":
    unittest.main()
