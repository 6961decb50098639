"""Lags, against a whole text beside panels that really send letters, row by row."""
import copy
import unittest

import helper
from helper import SMALL, SPLIT_DOORS, Plain, counted, counting, seeded
from housekept import errors, joined, lags, machines, meaning, panels, rules
from test_joined import Post, lying
from test_wrong import NET, PARTING, SPLIT

QUIET = ("world", (), (), (), 0)


class Duo:
    """A whole standing beside a post office of panels."""

    def __init__(self, text, parting, net, world):
        self.post = Post(text, parting, net, world)
        self.plain = Plain(text)
        self.whole = rules.begin(text)
        self.world = world

    def copy(self):
        other = copy.copy(self)
        other.post = copy.copy(self.post)
        other.post.standings = list(self.post.standings)
        other.post.sent = [list(row) for row in self.post.sent]
        other.post.read = list(self.post.read)
        return other

    def move(self, label):
        other = self.copy()
        other.post.move(label)
        signal = label if label[0] != "tick" else ("tick",)
        stuck = sum(how is not None for how in self.whole[3])
        if signal[0] != "stuck" or stuck < self.world[4]:
            other.whole = self.plain.account(self.whole, signal)[0]
        return other

    def key(self):
        return (self.whole, self.post.joint())

    def moves(self):
        signals = machines.signals_in(self.post.text, self.world)[:-1]
        return signals + self.post.ticks()

    def whole_doors(self):
        return tuple(stuck or worth for stuck, worth in zip(self.whole[3], self.whole[0]))

    def joint_doors(self):
        found = []
        for at, door in enumerate(self.post.text[1][2]):
            standing = self.post.standings[self.post.owner(door[0])]
            found.append(standing[3][at] or standing[0][at])
        return tuple(found)


def is_wrong(ends, joint, k):
    """Whether at the last of some ends a door that stood so for k ends ahead stands otherwise in the joint building."""
    if len(ends) <= k:
        return False
    return any(len({end[at] for end in ends[-1 - k:]}) == 1 and how != ends[-1][at] for at, how in enumerate(joint))


def plain_parts(first, k, most):
    """The least of the shortest rows up to a length behind which some door is wrong; None if there is none so short."""
    layer = [([], first, (first.whole_doors(),))]
    seen = set()
    for _ in range(most):
        later = []
        for row, here, ends in layer:
            for label in here.moves():
                there = here.move(label)
                more = (ends + (there.whole_doors(),))[-7:] if label[0] == "tick" else ends
                if label[0] == "tick" and is_wrong(more, there.joint_doors(), k):
                    return row + [label]
                if (there.key(), more) not in seen:
                    seen.add((there.key(), more))
                    later.append((row + [label], there, more))
        layer = later
    return None


def pairs_of(first, most):
    """All pairs of standings by their keys, with the ticks between them; None if there are too many."""
    met = {first.key(): first}
    order = [first.key()]
    nexts = {}
    for key in order:
        for label in met[key].moves():
            there = met[key].move(label)
            if there.key() not in met:
                if len(met) == most:
                    return None
                met[there.key()] = there
                order.append(there.key())
            if label[0] == "tick":
                nexts.setdefault(key, set()).add(there.key())
    return met, nexts


def plain_settles(met, nexts):
    lot = set(met)
    for n in range(len(met) + 2):
        if all(met[key].whole_doors() == met[key].joint_doors() for key in lot):
            return n
        lot = {there for key in lot for there in nexts[key]}
    return None


def random_rules(rand, names, many):
    """Rules by which panels follow one another at ticks."""
    made = []
    for _ in range(many):
        name, worths = rand.choice(names)
        when = rand.choice([("tick",), ("tick",), ("tick",), ("button", rand.randint(0, 1)), ("becomes", name, "any"),
                            ("card", rand.choice("ab"), 0, "any")])
        other, others = rand.choice(names[:2] + names[3:])
        test = ("is", name, rand.choice(worths)) if rand.random() < 0.8 else ("always",)
        made.append((when, test, (("let", other, rand.choice(others)),)))
    return tuple(made)


def samples(seed, many):
    rand = seeded(seed)
    found = 0
    while found < many:
        text = ("text", SPLIT_DOORS, (("x", ("p", "q")),), (), (), ())
        names = [("a", ("shut", "free")), ("b", ("shut", "free")), ("smoke:room", ("no", "yes")), ("x", ("p", "q"))]
        text = text[:5] + (random_rules(rand, names, 16),)
        owners = (0, 1, rand.randint(0, 1), rand.randint(0, 1)) + tuple(rand.randint(0, 1) for _ in range(6))
        safes = tuple(rand.choice(worths) for _, worths in names)
        parting = ("parting", 2, owners, rand.randint(0, 2), safes)
        text = lying(rand, text, parting)
        if text is None or not panels.lines(text, parting):
            continue
        found += 1
        doors = tuple(name for name in "ab" if rand.random() < 0.15)
        world = ("world", (), tuple(button for button in range(2) if rand.random() < 0.8), doors, len(doors))
        yield rand, text, parting, ("net", rand.randint(0, parting[3]), rand.choice([None, 0, 0, 1])), world


class Parts(unittest.TestCase):
    def test_against_rows(self):
        seen = {None: 0, 0: 0, 1: 0}
        for rand, text, parting, net, world in samples(1, 200):
            first = Duo(text, parting, net, world)
            k = rand.choice([0, 1, 1, 2])
            try:
                row = lags.parts_by(text, parting, net, world, k)
            except errors.TooMany as error:
                self.assertEqual(error.most, 1000)
                continue
            want = plain_parts(first, k, 4)
            if row is None or len(row) > 4:
                self.assertIsNone(want)
            else:
                self.assertEqual(row, want)
            seen[None if row is None else min(1, k)] += 1
        self.assertGreater(min(seen.values()), 8, seen)

    def test_least_by(self):
        found = []
        for _, text, parting, net, world in samples(2, 60):
            try:
                least = lags.least_by(text, parting, net, world)
                rows = [lags.parts_by(text, parting, net, world, k) for k in range(7)]
            except errors.TooMany:
                continue
            alike = [k for k in range(7) if rows[k] is None]
            self.assertEqual(least, min(alike, default=None))
            if least is not None:
                self.assertEqual(alike, list(range(least, 7)))
            found.append(least)
        self.assertTrue({None, 0} <= set(found), set(found))

    def chain(self):
        """Button 0 frees the door a of panel 0; at a tick panel 1 lets b stand as a."""
        house = SPLIT_DOORS
        made = ((("button", 0), ("is", "a", "shut"), (("let", "a", "free"),)),
                (("button", 1), ("always",), (("let", "a", "shut"),)),
                (("tick",), ("is", "a", "free"), (("let", "b", "free"),)),
                (("tick",), ("is", "a", "shut"), (("let", "b", "shut"),)))
        text = ("text", house, (), (), (), made)
        return text, ("parting", 2, (0, 1, 0, 0, 0, 0, 0, 0, 0), 2, ("shut", "shut", "no"))

    def test_by_hand(self):
        text, parting = self.chain()
        world = ("world", (), (0, 1), (), 0)
        # With letters in time b follows one tick later, and as many more as letters are late or lost.
        for net, k in [(("net", 0, 0), 1), (("net", 1, 0), 2), (("net", 0, 1), 2), (("net", 1, 1), 3), (("net", 0, 2), 3)]:
            self.assertEqual(lags.least_by(text, parting, net, world), k)
            self.assertEqual(lags.settles(text, parting, net, world), k + 1)
            self.assertIsNone(lags.unsettled(text, parting, net, world))
            self.assertIsNone(lags.parts_by(text, parting, net, world, k))
            row = lags.parts_by(text, parting, net, world, k - 1)
            self.assertEqual(row[0], ("button", 0))
            self.assertEqual([label[0] for label in row[1:]], ["tick"] * k)
        # Late and losses at their bounds, by a patience for just so late, and not for so many losses.
        patient = parting[:3] + (3,) + parting[4:]
        self.assertEqual(lags.least_by(text, patient, ("net", 3, 0), world), 4)
        self.assertEqual(lags.settles(text, patient, ("net", 3, 0), world), 5)
        self.assertEqual(lags.least_by(text, patient, ("net", 0, 3), world), 4)
        self.assertIsNone(lags.least_by(text, patient, ("net", 3, 3), world))
        self.assertIsNone(lags.settles(text, patient, ("net", 3, 3), world))
        self.check_unsettled(text, patient, ("net", 3, 3), world)
        # A letter that is lost for ever: behind the patience the safe value is there, for ever.
        for safe in ("shut", "free"):
            lost = parting[:4] + ((safe, safe, "no"),)
            self.assertIsNone(lags.least_by(text, lost, ("net", 0, None), world))
            self.assertIsNone(lags.settles(text, lost, ("net", 0, None), world))
            self.check_unsettled(text, lost, ("net", 0, None), world)

    def test_no_lines(self):
        """Without lines both have the same doors behind every row."""
        parting = ("parting", 2, (0, 1, 0, 0, 0, 0, 0, 0, 0), 0, ("shut", "shut", "no"))
        text = ("text", SPLIT_DOORS, (), (), (), ((("card", "a", "any", "any"), ("always",), (("let", "a", "free"),)),
                                                  (("tick",), ("is", "b", "shut"), (("let", "b", "free"),))))
        self.assertEqual(panels.lines(text, parting), ())
        self.assertEqual(lags.least_by(text, parting, ("net", 0, None), QUIET), 0)
        self.assertEqual(lags.settles(text, parting, ("net", 0, None), QUIET), 0)
        for k in (0, 6):
            self.assertIsNone(lags.parts_by(text, parting, ("net", 0, None), QUIET, k))

    def check_unsettled(self, text, parting, net, world):
        row, ring, rest = lags.unsettled(text, parting, net, world)
        self.assertTrue(ring)
        self.assertTrue(all(label[0] == "tick" for label in ring + rest))
        duo = Duo(text, parting, net, world)
        for label in row:
            duo = duo.move(label)
        here = duo.key()
        for label in ring:
            self.assertIn(label, duo.moves())
            duo = duo.move(label)
        self.assertEqual(duo.key(), here)
        for label in rest:
            self.assertIn(label, duo.moves())
            duo = duo.move(label)
        self.assertNotEqual(duo.whole_doors(), duo.joint_doors())
        labels = row + ring * 2 + rest
        behind = joined.joint_behind(text, parting, net, world, labels)
        self.assertEqual(behind[-1], duo.post.joint())
        if world[4] == len(world[3]):
            signals = [("tick",) if label[0] == "tick" else label for label in labels]
            self.assertEqual(meaning.behind(text, signals), duo.whole)

    def test_settles_against_all_pairs(self):
        seen = {None: 0, 0: 0, 1: 0, "more": 0}
        for _, text, parting, net, world in samples(3, 250):
            found = pairs_of(Duo(text, parting, net, world), 80)
            if found is None:
                continue
            n = lags.settles(text, parting, net, world)
            self.assertEqual(n, plain_settles(*found))
            self.assertIs(lags.unsettled(text, parting, net, world) is None, n is not None)
            if n is None:
                self.check_unsettled(text, parting, net, world)
            seen[n if n in seen else "more"] += 1
        self.assertGreater(min(seen[None], seen[0], seen["more"] + seen[1]), 3, seen)

    def test_ticks_alone(self):
        text, parting = self.chain()
        for k in (-1, 7, True, None, "0", 1.5):
            with self.assertRaises(errors.BadTicks):
                lags.parts_by(text, parting, ("net", 0, 0), QUIET, k)

    def test_errors_in_their_order(self):
        nowhere = SPLIT[:5] + (((("card", "any", 0, "any"), ("always",), ()),) + SPLIT[5],)
        for call, more in [(lags.parts_by, (0,)), (lags.least_by, ()), (lags.settles, ()), (lags.unsettled, ())]:
            with self.assertRaises(errors.NoPlace) as caught:
                call(nowhere, PARTING, NET, QUIET, *more)
            self.assertEqual(caught.exception.rule, 0)
            for args, error in [((None, None, None, None), errors.BadText), ((SPLIT, None, None, None), errors.BadParting),
                                ((SPLIT, PARTING, ("net", 3, 0), None), errors.BadNet),
                                ((SPLIT, PARTING, None, None), errors.BadNet), ((nowhere, PARTING, NET, None), errors.BadWorld)]:
                with self.assertRaises(error):
                    call(*args, *[None for _ in more])
        with self.assertRaises(errors.BadTicks):
            lags.parts_by(nowhere, PARTING, NET, QUIET, 7)

    def test_too_long_and_too_many(self):
        """[24] of the whole text, and of what panels work off; 1000 triples, and one more."""
        text = counting("b", 1023, "b")
        size = len(rules.variables(text)) + 6
        parting = ("parting", 2, (0,) * size, 0, tuple(worths[0] for _, worths in rules.variables(text)))
        for call, more in [(lags.parts_by, (0,)), (lags.least_by, ()), (lags.settles, ()), (lags.unsettled, ())]:
            with self.assertRaises(errors.TooLong) as caught:
                call(text, parting, ("net", 0, 0), ("world", (), (0,), (), 0), *more)
            self.assertEqual(caught.exception.most, 1000)
        self.assertEqual(len(counted(3)), 4)
        for many, error in [(1000, None), (1001, errors.TooMany)]:
            text = helper.ring_of(many)
            parting = ("parting", 2, (0,) * (len(rules.variables(text)) + 6), 0,
                       tuple(worths[0] for _, worths in rules.variables(text)))
            if error is None:
                self.assertIsNone(lags.parts_by(text, parting, ("net", 0, 0), QUIET, 0))
                self.assertEqual(lags.settles(text, parting, ("net", 0, 0), QUIET), 0)
                continue
            for call, more in [(lags.parts_by, (0,)), (lags.least_by, ()), (lags.settles, ()), (lags.unsettled, ())]:
                with self.assertRaises(error) as caught:
                    call(text, parting, ("net", 0, 0), QUIET, *more)
                self.assertEqual(caught.exception.most, 1000)

    def test_triples_count_ends(self):
        """With a greater k there are more triples: how many ends a door has stood so counts up to k + 1."""
        text = helper.ring_of(999)
        parting = ("parting", 2, (0,) * (len(rules.variables(text)) + 6), 0,
                   tuple(worths[0] for _, worths in rules.variables(text)))
        self.assertIsNone(lags.parts_by(text, parting, ("net", 0, 0), QUIET, 0))
        # The door stands shut at all ends: behind the beginning and the first ticks so many.
        self.assertIsNone(lags.parts_by(text, parting, ("net", 0, 0), QUIET, 1))
        with self.assertRaises(errors.TooMany):
            lags.parts_by(text, parting, ("net", 0, 0), QUIET, 2)
        with self.assertRaises(errors.TooMany):
            lags.parts_by(text, parting, ("net", 0, 0), QUIET, 6)


class Small(unittest.TestCase):
    def test_a_signal_void_for_one_alone(self):
        """Passes at a door that stands free in one of both alone."""
        text, parting = Parts().chain()
        world = ("world", (), (0, 1), (), 0)
        gate = SPLIT_DOORS[:2] + (tuple(door[:3] + ("gate",) for door in SPLIT_DOORS[2]),) + SPLIT_DOORS[3:]
        text = text[:1] + (gate,) + text[2:]
        first = Duo(text, parting, ("net", 0, 0), world)
        for k in range(3):
            row = lags.parts_by(text, parting, ("net", 0, 0), world, k)
            want = plain_parts(first, k, 4)
            self.assertEqual(row if row is None or len(row) <= 4 else None, want)
        self.assertEqual(len(SMALL), 5)


if __name__ == "__main__":
    unittest.main()
