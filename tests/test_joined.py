"""The joint building, against panels that really send numbered letters and read the greatest that has come."""
import itertools
import unittest

from helper import HOUSE, SMALL, TEXT, WORLD, Plain, random_building, random_text, random_world, seeded
from housekept import errors, joined, letters, machines, meaning, panels, rules, webs
from test_wrong import NET, PARTING, SPLIT

QUIET = ("world", (), (), (), 0)


class Post:
    """Panels as [71] and [72] tell them: all letters are kept, each line is read by a number."""

    def __init__(self, text, parting, net, world):
        self.text, self.parting, self.net, self.world = text, parting, net, world
        self.names = [name for name, _ in rules.variables(text)]
        self.plains = [Plain(panels.panel_text(text, parting, panel)) for panel in range(parting[1])]
        self.standings = [rules.begin(text)] * parting[1]
        self.lines = panels.lines(text, parting)
        self.sent = [[rules.begin(text)[0]] for _ in range(parting[1])]
        self.read = [0] * len(self.lines)
        self.tick = 1

    def owner(self, name):
        return self.parting[2][self.names.index(name)]

    def panel_of(self, signal):
        if signal[0] == "button":
            return self.parting[2][len(self.parting[2]) - 6 + signal[1]]
        return self.owner("smoke:" + signal[1] if signal[0] == "smoke" else signal[1])

    def stuck(self):
        doors = [door[0] for door in self.text[1][2]]
        return sum(self.standings[self.owner(door)][3][at] is not None for at, door in enumerate(doors))

    def signal(self, signal):
        if signal[0] == "stuck" and self.stuck() >= self.world[4]:
            return
        panel = self.panel_of(signal)
        self.standings[panel] = self.plains[panel].account(self.standings[panel], signal)[0]

    def go_on(self, choices):
        copied = [[] for _ in self.standings]
        for at, (owner, reader, names) in enumerate(self.lines):
            if choices[at] != "stay":
                self.read[at] = self.tick - 1 - choices[at]
            values = self.sent[owner][self.read[at]]
            if self.tick - 1 - self.read[at] > self.parting[3]:
                values = self.parting[4]
            copied[reader] += [(name, values[name]) for name in names]
        self.standings = [self.ticked(panel, copied[panel]) for panel in range(self.parting[1])]
        for panel, standing in enumerate(self.standings):
            self.sent[panel].append(standing[0])
        self.tick += 1

    def ticked(self, panel, copied):
        """The tick of a panel whose copies have become what is read: as an account that hears of that, too."""
        plain, old = self.plains[panel], self.standings[panel]
        values = list(old[0])
        for name, worth in copied:
            values[name] = worth
        start = plain.opened((tuple(values),) + old[1:])
        own, told = plain.itself(start, ("tick",))
        told += plain.becoming(plain.opened(old), start)
        met, state = [], own
        while told:
            if (state, told) in met:
                return plain.closed(own)
            met.append((state, told))
            new = plain.round(state, told, False)[0]
            told = plain.becoming(state, new)
            state = new
        return plain.closed(state)

    def joint(self):
        patience = self.parting[3]
        rows, lags = [], []
        for at, (owner, _, names) in enumerate(self.lines):
            last = [self.sent[owner][max(0, self.tick - 1 - back)] for back in range(patience + 1)]
            rows.append(tuple(tuple(values[name] for name in names) for values in last))
            lag = self.tick - 1 - self.read[at]
            lags.append(min(lag, patience + 1) if self.net[2] is None else lag)
        return (tuple(self.standings), tuple(rows), tuple(lags))

    def choices(self):
        _, late, lost = self.net
        for lag in self.joint()[2]:
            stay = ["stay"] if lost is None or lag <= late + lost else []
            yield stay + [newer for newer in range(late + 1) if newer < lag]

    def ticks(self):
        return [("tick",) + row for row in itertools.product(*self.choices())]

    def move(self, label):
        self.go_on(label[1:]) if label[0] == "tick" else self.signal(label)


def random_parting(rand, text):
    scope = rules.variables(text)
    many = rand.randint(2, 3)
    size = len(scope) + len(text[3]) + len(text[4]) + 6
    owners = tuple(rand.randrange(many) for _ in range(size))
    return ("parting", many, owners, rand.randint(0, 3), tuple(rand.choice(worths) for _, worths in scope))


def lying(rand, text, parting):
    """The text without the rules that lie nowhere; None if none is left."""
    kept = []
    for rule in text[5]:
        try:
            panels.places(text[:5] + ((rule,),), parting)
            kept.append(rule)
        except errors.NoPlace:
            pass
    return text[:5] + (tuple(kept),) if kept else None


def samples(seed, many):
    rand = seeded(seed)
    found = 0
    while found < many:
        text = random_text(rand, random_building(rand, 3, 2, 1), 20)
        parting = random_parting(rand, text)
        text = lying(rand, text, parting)
        if text is None or not panels.lines(text, parting):
            continue
        found += 1
        late = rand.randint(0, parting[3])
        yield rand, text, parting, ("net", late, rand.choice([None, 0, 1, 2, 3])), random_world(rand, text)


class Rows(unittest.TestCase):
    def test_along_random_rows(self):
        silent = 0
        for rand, text, parting, net, world in samples(11, 60):
            post = Post(text, parting, net, world)
            signals = machines.signals_in(text, world)[:-1]
            row, want = [], []
            for _ in range(25):
                label = rand.choice(post.ticks()) if rand.random() < 0.5 else rand.choice(signals)
                post.move(label)
                row.append(label)
                want.append(post.joint())
                silent += any(lag > parting[3] for lag in post.joint()[2])
            self.assertEqual(joined.joint_behind(text, parting, net, world, row), want)
        self.assertGreater(silent, 50)

    def test_by_hand(self):
        """Panel 1 has the front door and button 5, panel 0 the inner one, whose cards need the front door free."""
        behind = joined.joint_behind(SPLIT, PARTING, ("net", 1, 0), WORLD, [
            ("card", "front", 0, "guest"), ("card", "inner", 0, "staff"), ("tick", "stay", "stay")])
        self.assertEqual(panels.lines(SPLIT, PARTING), ((0, 1, (0,)), (1, 0, (1,))))
        front, inner = 0, 1
        self.assertEqual(behind[0][0][0][0][front], "free")
        # No letter has come: panel 1 knows nothing of the front door.
        self.assertEqual(behind[0][0][1][0][front], "shut")
        self.assertEqual(behind[1], behind[0])
        self.assertEqual(behind[2][1][0], (("free",), ("shut",), ("shut",)))
        self.assertEqual(behind[2][2], (1, 1))
        with self.assertRaises(errors.BadLabels) as caught:
            joined.joint_behind(SPLIT, PARTING, ("net", 0, 0), WORLD, [("tick", "stay", "stay")] * 2)
        self.assertEqual(caught.exception.index, 1)
        rows = [("tick", "stay", "stay"), ("tick", 0, "stay"), ("card", "inner", 0, "staff")]
        heard = joined.joint_behind(SPLIT, PARTING, ("net", 1, 0), WORLD, [("card", "front", 0, "guest")] + rows)
        self.assertEqual(heard[2][0][1][0][front], "free")
        self.assertEqual(heard[3][0][1][0][inner], "free")

    def test_silence_gives_safe_values(self):
        parting = PARTING[:3] + (0, ("free", "free", "no", "no", "night"))
        rows = [("tick", "stay", "stay"), ("tick", "stay", "stay")]
        behind = joined.joint_behind(SPLIT, parting, ("net", 0, 1), WORLD, rows)
        self.assertEqual([one[0][1][0][0] for one in behind], ["shut", "free"])
        self.assertEqual([one[2] for one in behind], [(1, 1), (2, 2)])
        # With letters that may all be lost the lag grows no more than that.
        behind = joined.joint_behind(SPLIT, parting, ("net", 0, None), WORLD, rows * 2)
        self.assertEqual([one[2] for one in behind], [(1, 1)] * 4)

    def test_wrong_labels(self):
        for label in [None, (), ("tick",), ("tick", "stay"), ("tick", "stay", 1), ("tick", True, "stay"), ("tick", 0, 0),
                      ("tick", "stay", "stay", "stay"), ["tick", "stay", "stay"], ("show", "guest", "front", 0),
                      ("smoke", "hall", "yes"), ("button", 0), ("tick", "stay", ["stay"]), ("card", "front", 0, "any")]:
            row = [("tick", "stay", "stay"), ("button", 1), label, None]
            if label == ("tick", 0, 0):
                row = [label]
            with self.assertRaises(errors.BadLabels) as caught:
                joined.joint_behind(SPLIT, PARTING, ("net", 0, 3), WORLD, row)
            self.assertEqual(caught.exception.index, row.index(label), label)
        for wrong in [None, "row", {}, 3]:
            with self.assertRaises(errors.BadLabels) as caught:
                joined.joint_behind(SPLIT, PARTING, NET, WORLD, wrong)
            self.assertIsNone(caught.exception.index)
        self.assertEqual(joined.joint_behind(SPLIT, PARTING, NET, WORLD, []), [])
        late = joined.joint_behind(SPLIT, PARTING, ("net", 0, 3), WORLD, [("tick", "stay", "stay"), ("tick", 0, "stay")])
        self.assertEqual(late[1][2], (1, 2))

    def test_errors_in_their_order(self):
        nowhere = SPLIT[:5] + (((("card", "any", 0, "any"), ("always",), ()),) + SPLIT[5],)
        wrong = nowhere[:5] + (nowhere[5][0],)
        for call, more in [(joined.joint_web, ()), (joined.joint_behind, ([("no",)],))]:
            cases = [(errors.BadText, (wrong, None, None, None)), (errors.BadParting, (nowhere, None, None, None)),
                     (errors.BadNet, (nowhere, PARTING, None, None)),
                     (errors.BadNet, (nowhere, PARTING, ("net", 3, 0), None)),
                     (errors.BadWorld, (nowhere, PARTING, ("net", 2, 0), None)),
                     (errors.NoPlace, (nowhere, PARTING, ("net", 2, 0), WORLD))]
            for error, args in cases:
                with self.assertRaises(error):
                    call(*args, *more)
        with self.assertRaises(errors.NoPlace) as caught:
            joined.joint_web(nowhere, PARTING, NET, WORLD)
        self.assertEqual(caught.exception.rule, 0)
        with self.assertRaises(errors.BadLabels):
            joined.joint_behind(nowhere, PARTING, NET, WORLD, None)


class Webs(unittest.TestCase):
    def second(self, text, parting, net, world, most):
        """The web, met by posts from the beginning: None if there are more than most standings."""
        labels = [(("show", kind, door[0], side), (kind, door[1 + side]), (kind, door[1 + side]),
                   ("card", door[0], side, kind)) for kind in text[1][3] for door in text[1][2] for side in (0, 1)]
        goes = [(("go", kind, door[0], side), (kind, door[1 + side]), (kind, door[2 - side]), ("pass", door[0], side))
                for kind in text[1][3] for door in text[1][2] for side in (0, 1)]
        others = [signal for signal in rules.signals(text) if signal[0] in ("smoke", "button", "stuck", "mended")]
        others = [(signal, None, None, signal) for signal in others
                  if signal[1] in (world[1] if signal[0] == "smoke" else world[2] if signal[0] == "button" else world[3])]
        start = Post(text, parting, net, world)
        met, rows, web = [start.joint()], [[]], []
        while len(web) < len(met):
            def post():
                one = Post(text, parting, net, world)
                for label in rows[len(web)]:
                    one.move(label)
                return one
            here, moves = post(), []
            doors = [door[0] for door in text[1][2]]
            free = [door for door in doors if rules.stands(text, here.standings[here.owner(door)], door) == "free"]
            todo = labels + [one for one in goes if one[0][2] in free] + others
            todo += [(tick, None, None, tick) for tick in here.ticks()]
            for label, need, there, signal in todo:
                one = post()
                one.move(signal)
                if one.joint() not in met:
                    if len(met) == most:
                        return None
                    met.append(one.joint())
                    rows.append(rows[len(web)] + [signal])
                moves.append((label, need, there, met.index(one.joint())))
            web.append(tuple(moves))
        return ("web", (0,), tuple(web)), tuple(met)

    def test_against_posts(self):
        small = 0
        for rand, text, parting, net, world in samples(12, 40):
            want = self.second(text, parting, net, world, 25)
            if want is None:
                try:
                    self.assertGreater(len(joined.joint_web(text, parting, net, world)[1]), 25)
                except errors.TooMany as error:
                    self.assertEqual(error.most, 1000)
                continue
            small += 1
            found = joined.joint_web(text, parting, net, world)
            self.assertEqual(found, want)
            self.assertIs(webs.is_web(found[0]), True)
        self.assertGreater(small, 8)

    def test_without_lines(self):
        """(N1): the same doors as the whole text has, behind every row without an endless signal."""
        rand = seeded(13)
        checked = 0
        while checked < 40:
            text = random_text(rand, random_building(rand, 3, 2, 1), 14)
            parting = random_parting(rand, text)
            text = lying(rand, text, parting)
            if text is None or panels.lines(text, parting):
                continue
            row = [rand.choice(rules.signals(text)) for _ in range(12)]
            accounts = meaning.run(text, rules.begin(text), row)
            if any(account[4] for account in accounts):
                continue
            checked += 1
            world = ("world", text[1][1][1:], (0, 1, 2, 3, 4, 5), tuple(door[0] for door in text[1][2]), len(text[1][2]))
            net = ("net", 0, 0)
            found = joined.joint_behind(text, parting, net, world, row)
            post = Post(text, parting, net, world)
            for account, joint in zip(accounts, found):
                self.assertEqual(joint[1:], ((), ()))
                for door in [door[0] for door in text[1][2]]:
                    self.assertEqual(rules.stands(text, joint[0][post.owner(door)], door),
                                     rules.stands(text, account[0], door))

    def test_less_late_and_less_lost(self):
        """(N2): what can be in a lesser net can be in a greater one."""
        own = [joined.joint_web(SPLIT, PARTING, ("net", late, lost), QUIET)[1]
               for late, lost in [(0, 0), (0, 1), (1, 1)]]
        for less, more in zip(own, own[1:]):
            self.assertLess({one[0] for one in less}, {one[0] for one in more} | {None})

    def test_just_a_thousand(self):
        made = thousand(3)
        web, standings = joined.joint_web(*made)
        self.assertEqual((len(standings), len(web[2])), (1000, 1000))
        self.assertEqual(standings[0][1:], ((), ()))
        with self.assertRaises(errors.TooMany) as caught:
            joined.joint_web(*thousand(4))
        self.assertEqual(caught.exception.most, 1000)

    def test_lines_of_all_sorts_in_time(self):
        """Six lines of three panels: half a million ticks."""
        building = ("building", ("out", "room"), (("a", "out", "room", "leaf"),), ("guest",), ())
        made = tuple((("tick",), ("both", ("is", one, "y"), ("is", other, "y")), (("let", other, "y"),))
                     for one in "pqr" for other in "pqr" if one != other)
        text = ("text", building, tuple((name, ("x", "y")) for name in "pqr"), (), (), made)
        parting = ("parting", 3, (0, 0, 0, 1, 2) + (0,) * 6, 2, ("shut", "no", "x", "x", "x"))
        self.assertEqual(len(panels.lines(text, parting)), 6)
        web, standings = joined.joint_web(text, parting, ("net", 2, None), QUIET)
        self.assertEqual({one[2] for one in standings}, {(0,) * 6} | set(itertools.product((1, 2, 3), repeat=6)))
        self.assertEqual(max(len([move for move in moves if move[0][0] == "tick"]) for moves in web[2]), 4 ** 6)


def thousand(toggles):
    """Toggles of panel 0 or 1, and three timers of panel 1, without lines: 2 ** toggles * 5 ** 3 joint standings."""
    made = [(("card", "door", 0, "any"), ("always",), (("start", "r", 4),)),
            (("card", "door", 1, "any"), ("always",), (("start", "s", 4),)),
            (("button", 5), ("always",), (("start", "t", 4),))]
    for at, name in enumerate("vwxyz"[:toggles]):
        made.append((("button", at), ("is", name, "a"), (("let", name, "b"),)))
        made.append((("button", at), ("is", name, "b"), (("let", name, "a"),)))
    text = ("text", SMALL, tuple((name, ("a", "b")) for name in "vwxyz"[:toggles]),
            (("r", 4), ("s", 4), ("t", 4)), (), tuple(made))
    owners = (1, 0) + (0,) * toggles + (1, 1, 1) + (0,) * toggles + (1,) * (6 - toggles)
    parting = ("parting", 2, owners, 1, ("shut", "no") + ("a",) * toggles)
    return text, parting, ("net", 1, None), ("world", (), (0, 1, 2, 3, 4, 5), (), 0)


class Nets(unittest.TestCase):
    def test_choices_are_pointer_rows(self):
        """What lags a line can have is what [72] lets pointers be."""
        for late, lost in itertools.product((0, 1, 2), (0, 1, 2)):
            net = ("net", late, lost)
            parting = PARTING[:3] + (2,) + PARTING[4:]
            for row in itertools.product(range(4), repeat=4):
                label_rows, ahead = [], 0
                for at, number in enumerate(row):
                    label_rows.append(("tick", "stay" if number == ahead else at - number, "stay"))
                    ahead = number
                # The second line reads each latest letter, which is always let.
                label_rows = [(word, choice, 0 if at else "stay") for at, (word, choice, _) in enumerate(label_rows)]
                try:
                    joined.joint_behind(SPLIT, parting, net, QUIET, label_rows)
                    self.assertTrue(letters.is_pointer_row(net, list(row)), (net, row))
                except errors.BadLabels:
                    self.assertFalse(letters.is_pointer_row(net, list(row)), (net, row))


if __name__ == "__main__":
    unittest.main()
