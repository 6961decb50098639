"""Rolling, against panels that really send letters and change their rules one behind the other."""
import copy
import itertools
import unittest

import helper
from helper import SPLIT_DOORS, Plain, put, ring_of, seeded
from housekept import errors, households, joined, judging, machines, panels, rolling, rules, webs
from test_joined import Post, lying
from test_lags import random_rules
from test_wrong import PARTING, SPLIT

QUIET = ("world", (), (), (), 0)
NAMES = [("a", ("shut", "free")), ("b", ("shut", "free")), ("smoke:room", ("no", "yes")), ("x", ("p", "q"))]


class Rolled(Post):
    """Panels that work by old rules until they have gone over."""

    def __init__(self, old, new, parting, net, world, order):
        super().__init__(old, parting, net, world)
        self.new = [Plain(panels.panel_text(new, parting, panel)) for panel in range(parting[1])]
        read = {}
        for owner, reader, names in panels.lines(old, parting) + panels.lines(new, parting):
            read.setdefault((owner, reader), set()).update(names)
        self.lines = tuple((owner, reader, tuple(sorted(names))) for (owner, reader), names in sorted(read.items()))
        self.read = [0] * len(self.lines)
        self.order, self.many = order, 0

    def copy(self):
        other = copy.copy(self)
        other.standings, other.read, other.plains = list(self.standings), list(self.read), list(self.plains)
        other.sent = [list(row) for row in self.sent]
        return other

    def move(self, label):
        if label == ("over",):
            self.plains[self.order[self.many]] = self.new[self.order[self.many]]
            self.many += 1
        else:
            super().move(label)

    def behind(self, label):
        other = self.copy()
        other.move(label)
        return other

    def key(self):
        return (self.many, self.joint())

    def door(self, door):
        at = [row[0] for row in self.text[1][2]].index(door)
        standing = self.standings[self.owner(door)]
        return standing[3][at] or standing[0][at]

    def moves(self):
        """(label, need, there, what comes behind it)."""
        building = self.text[1]
        sides = [(kind, door, side) for kind in building[3] for door in building[2] for side in (0, 1)]
        for kind, door, side in sides:
            spot = (kind, door[1 + side])
            yield ("show", kind, door[0], side), spot, spot, self.behind(("card", door[0], side, kind))
        for kind, door, side in sides:
            if self.door(door[0]) == "free":
                yield (("go", kind, door[0], side), (kind, door[1 + side]), (kind, door[2 - side]),
                       self.behind(("pass", door[0], side)))
        for signal in machines.signals_in(self.text, self.world)[:-1]:
            if signal[0] not in ("card", "pass"):
                yield signal, None, None, self.behind(signal)
        for label in self.ticks():
            yield label, None, None, self.behind(label)
        if self.many < len(self.order):
            yield ("over",), None, None, self.behind(("over",))


def plain_web(first, most):
    """The web and the standings as they are met, None if there are too many."""
    met, order, rows = {first.key(): 0}, [first], []
    for here in order:
        row = []
        for label, need, there, behind in here.moves():
            if behind.key() not in met:
                met[behind.key()] = len(order)
                order.append(behind)
                if len(order) > most:
                    return None
            row.append((label, need, there, met[behind.key()]))
        rows.append(tuple(row))
    return ("web", (0,), tuple(rows)), tuple(met)


def owned(text, parting, joint):
    """The owned standing of a joint one."""
    names = [name for name, _ in rules.variables(text)]
    owners, standings = parting[2], joint[0]
    return (tuple(standings[owners[at]][0][at] for at in range(len(names))), (), (),
            tuple(standings[owners[names.index(door[0])]][3][at] for at, door in enumerate(text[1][2])))


def holds_for_all(text, parting, web, standings, question, needs):
    plain = Plain(text)
    places = tuple(at for at, joint in enumerate(standings) if plain.true(plain.opened(owned(text, parting, joint)), question, False))
    return households.households(text[1], web, ("never", places, needs)) == []


def samples(seed, many):
    rand = seeded(seed)
    found = 0
    while found < many:
        base = ("text", SPLIT_DOORS, (("x", ("p", "q")),), (), ())
        shares = rand.choice([2, 2, 3])
        owners = (0, 1, rand.randrange(shares), shares - 1) + tuple(rand.randrange(shares) for _ in range(6))
        safes = tuple(rand.choice(worths) for _, worths in NAMES)
        parting = ("parting", shares, owners, rand.randint(0, 1), safes)
        old = lying(rand, base + (random_rules(rand, NAMES, 7),), parting)
        new = lying(rand, base + (random_rules(rand, NAMES, 7),), parting)
        if old is None or new is None or not panels.lines(old, parting) + panels.lines(new, parting):
            continue
        found += 1
        world = ("world", (), tuple(button for button in range(2) if rand.random() < 0.6), (), 0)
        yield rand, old, new, parting, ("net", rand.randint(0, parting[3]), rand.choice([None, 0, 0])), world


def mixed(old, new, parting, lot):
    """The text of the new rules of a lot of panels, and of the old ones of the others."""
    made = [rule for rule, panel in zip(old[5], panels.places(old, parting)) if panel not in lot]
    made += [rule for rule, panel in zip(new[5], panels.places(new, parting)) if panel in lot]
    return old[:5] + (tuple(made) or ((("button", 0), ("not", ("always",)), ()),),)


class Rolling(unittest.TestCase):
    def question(self, rand):
        name, worths = rand.choice(NAMES)
        return rand.choice([("is", name, rand.choice(worths)), ("stands", rand.choice("ab"), "free"), ("always",),
                            ("both", ("stands", "a", "free"), ("stands", "b", "free"))])

    def needs(self, rand):
        return rand.choice([(), (("guest", "room", 1),), (("any", "room", 2),), (("any", "out", 1), ("any", "room", 1))])

    def test_webs(self):
        checked = 0
        for rand, old, new, parting, net, world in samples(1, 60):
            for order in itertools.permutations(range(parting[1])):
                want = plain_web(Rolled(old, new, parting, net, world, order), 120)
                if want is not None:
                    self.assertEqual(rolling.rolling_web(old, new, parting, net, world, order), want)
                    self.assertIs(webs.is_web(want[0]), True)
                    checked += 1
        self.assertGreater(checked, 25)

    def test_orders_and_mixtures(self):
        seen = {"safe": 0, "other": 0, "bad": 0, "good": 0}
        for rand, old, new, parting, net, world in samples(2, 80):
            question, needs = self.question(rand), self.needs(rand)
            try:
                orders = rolling.safe_orders(old, new, parting, net, world, question, needs)
                lots = rolling.bad_mixtures(old, new, parting, net, world, question, needs)
            except errors.TooMany as error:
                self.assertEqual(error.most, 1000)
                continue
            self.assertEqual((orders, lots), (sorted(orders), sorted(lots)))
            for order in itertools.permutations(range(parting[1])):
                web, standings = rolling.rolling_web(old, new, parting, net, world, order)
                kept = holds_for_all(old, parting, web, [joint for _, joint in standings], question, needs)
                self.assertIs(order in orders, kept)
                seen["safe" if kept else "other"] += 1
            for many in range(parting[1] + 1):
                for lot in itertools.combinations(range(parting[1]), many):
                    web, standings = joined.joint_web(mixed(old, new, parting, lot), parting, net, world)
                    kept = holds_for_all(old, parting, web, standings, question, needs)
                    self.assertIs(lot in lots, not kept)
                    seen["good" if kept else "bad"] += 1
        self.assertGreater(min(seen.values()), 20, seen)

    def test_by_hand(self):
        """Who goes over first decides: by new rules b waits for the letter that a is shut."""
        base = ("text", SPLIT_DOORS, (("x", ("p", "q")),), (), ())
        parting = ("parting", 2, (0, 1, 0, 0) + (0, 1, 0, 0, 0, 0), 0, ("shut", "shut", "no", "p"))
        frees_a = (("button", 0), ("always",), (("let", "a", "free"),))
        frees_b = (("button", 1), ("always",), (("let", "b", "free"),))
        never = (("button", 0), ("not", ("always",)), ())
        old, new = base + ((frees_a,),), base + ((frees_b,),)
        self.assertEqual(panels.places(old, parting) + panels.places(new, parting), (0, 1))
        world = ("world", (), (0, 1), (), 0)
        both = ("both", ("stands", "a", "free"), ("stands", "b", "free"))
        # a is freed by the old panel 0 alone, b by the new panel 1 alone; a stays free when panel 0 goes over.
        self.assertEqual(rolling.safe_orders(old, new, parting, ("net", 0, 0), world, both, ()), [])
        self.assertEqual(rolling.bad_mixtures(old, new, parting, ("net", 0, 0), world, both, ()), [(1,)])
        shut = base + ((frees_b, (("becomes", "a", "any"), ("always",), (("let", "a", "shut"),)), never),)
        self.assertEqual(rolling.bad_mixtures(old, shut, parting, ("net", 0, 0), world, both, (("any", "room", 3),)), [(1,)])
        once = ("is", "a", "free")
        self.assertEqual(rolling.bad_mixtures(old, new, parting, ("net", 0, 0), world, once, ()), [(), (1,)])
        self.assertEqual(rolling.safe_orders(new, new, parting, ("net", 0, 0), world, once, ()), [(0, 1), (1, 0)])
        self.assertEqual(rolling.bad_mixtures(new, new, parting, ("net", 0, 0), world, once, ()), [])
        web, standings = rolling.rolling_web(old, new, parting, ("net", 0, 0), world, (1, 0))
        self.assertEqual(standings[0][0], 0)
        self.assertEqual(web[2][0][-1][:3], (("over",), None, None))
        self.assertEqual(standings[web[2][0][-1][3]], (1, standings[0][1]))

    def test_errors_in_their_order(self):
        nowhere = SPLIT[:5] + (((("card", "any", 0, "any"), ("always",), ()),) + SPLIT[5],)
        other = put(SPLIT, (2, 0, 1), ("day", "late"))
        right = (SPLIT, SPLIT, PARTING, ("net", 0, 0), QUIET)
        question, needs = ("stands", "front", "free"), (("any", "hall", 1),)
        calls = [(rolling.rolling_web, [(0, 1)], [errors.BadOrder]),
                 (rolling.safe_orders, [question, needs], [errors.BadQuestion, errors.BadNeeds]),
                 (rolling.bad_mixtures, [question, needs], [errors.BadQuestion, errors.BadNeeds])]
        for call, more, last in calls:
            named = [errors.BadText, errors.BadText, errors.BadParting, errors.BadNet, errors.BadWorld] + last
            args = list(right) + more
            for at, error in enumerate(named):
                for value in (None, True, "no", [[]], ((),)):
                    with self.assertRaises(error):
                        call(*args[:at], *[value] * (len(args) - at))
                    with self.assertRaises(error):
                        call(*args[:at], value, *args[at + 1:])
            with self.assertRaises(errors.UnlikeTexts):
                call(SPLIT, other, None, *args[3:])
            with self.assertRaises(errors.UnlikeTexts):
                call(helper.PLAIN, SPLIT, *args[2:])
            with self.assertRaises(errors.BadNet):
                call(SPLIT, SPLIT, PARTING, ("net", 3, 0), None, *more)
            for pair in ((nowhere, SPLIT), (SPLIT, nowhere)):
                with self.assertRaises(errors.NoPlace) as caught:
                    call(*pair, *args[2:])
                self.assertEqual(caught.exception.rule, 0)
                with self.assertRaises(last[-1]):
                    call(*pair, *args[2:-1], None)
        for order in ((0,), (0, 0), (0, 1, 2), [0, 1], (0, True), (1, 2), (), None, "01", (0, "1")):
            with self.assertRaises(errors.BadOrder):
                rolling.rolling_web(*right, order)

    def test_too_many(self):
        for many, error in [(333, None), (334, errors.TooMany)]:
            text = ring_of(many)
            size = len(rules.variables(text)) + 6
            parting = ("parting", 2, (0,) * size, 0, tuple(worths[0] for _, worths in rules.variables(text)))
            args = (text, text, parting, ("net", 0, 0), QUIET)
            if error is None:
                web, standings = rolling.rolling_web(*args, (0, 1))
                self.assertEqual((len(web[2]), len(standings)), (999, 999))
                self.assertEqual(rolling.safe_orders(*args, ("stands", "door", "free"), ()), [(0, 1), (1, 0)])
                continue
            for call, more in [(rolling.rolling_web, ((0, 1),)), (rolling.safe_orders, (("always",), ()))]:
                with self.assertRaises(error) as caught:
                    call(*args, *more)
                self.assertEqual(caught.exception.most, 1000)
            self.assertEqual(rolling.bad_mixtures(*args, ("is", "door", "free"), ()), [])
        self.assertTrue(judging.always(machines.Machine(helper.PLAIN, QUIET), ("always",)))

    def test_too_long(self):
        text = helper.counting("b", 1023)
        size = len(rules.variables(text)) + 6
        parting = ("parting", 2, (0,) * size, 0, tuple(worths[0] for _, worths in rules.variables(text)))
        quiet = text[:5] + (((("button", 0), ("not", ("always",)), ()),),)
        world = ("world", (), (0,), (), 0)
        for pair in ((text, quiet), (quiet, text)):
            for call, more in [(rolling.rolling_web, ((0, 1),)), (rolling.safe_orders, (("always",), ())),
                               (rolling.bad_mixtures, (("always",), ()))]:
                with self.assertRaises(errors.TooLong) as caught:
                    call(*pair, parting, ("net", 0, 0), world, *more)
                self.assertEqual(caught.exception.most, 1000)


if __name__ == "__main__":
    unittest.main()
