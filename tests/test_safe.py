"""Any silence, against panels that read any letter that has been sent, household by household."""
import itertools
import unittest

import helper
from helper import SMALL, SPLIT_DOORS, Plain, put, seeded
from housekept import crowds, errors, machines, panels, rules, safe
from test_joined import lying
from test_lags import random_rules, samples
from test_wrong import PARTING, SPLIT

QUIET = ("world", (), (), (), 0)


class Silent:
    """States (standings, down, crowd, words), by plain interpreters of the panels' texts."""

    def __init__(self, text, parting, world, falls):
        self.text, self.parting, self.world, self.falls = text, parting, world, falls
        self.names = [name for name, _ in rules.variables(text)]
        self.plains = [Plain(panels.panel_text(text, parting, panel)) for panel in range(parting[1])]
        self.lines = panels.lines(text, parting)
        self.building = text[1]

    def begin(self, household):
        return ((rules.begin(self.text),) * self.parting[1], None, crowds.crowd_at(self.building, household),
                ((),) * len(self.lines))

    def owner(self, name):
        return self.parting[2][self.names.index(name)]

    def panel_of(self, signal):
        if signal[0] == "button":
            return self.parting[2][len(self.parting[2]) - 6 + signal[1]]
        return self.owner("smoke:" + signal[1] if signal[0] == "smoke" else signal[1])

    def owned(self, standings):
        """The owned standing."""
        size = len(self.names)
        timers, counters = len(self.text[3]), len(self.text[4])
        owners = self.parting[2]
        return (tuple(standings[owners[at]][0][at] for at in range(size)),
                tuple(standings[owners[size + at]][1][at] for at in range(timers)),
                tuple(standings[owners[size + timers + at]][2][at] for at in range(counters)),
                tuple(standings[self.owner(door[0])][3][at] for at, door in enumerate(self.building[2])))

    def free(self, standings):
        values, _, _, stuck = self.owned(standings)
        return [door[0] for at, door in enumerate(self.building[2]) if (stuck[at] or values[at]) == "free"]

    def signalled(self, state, signal):
        standings, down, crowd, words = state
        stuck = sum(how is not None for how in self.owned(standings)[3])
        if signal[0] == "stuck" and stuck >= self.world[4]:
            return state
        panel = self.panel_of(signal)
        plain = self.plains[panel]
        if panel == down:
            opened = plain.opened(standings[panel])
            new = standings[panel] if plain.void(opened, signal) else plain.closed(plain.itself(opened, signal)[0])
        else:
            new = plain.account(standings[panel], signal)[0]
        return (standings[:panel] + (new,) + standings[panel + 1:], down, crowd, words)

    def with_copies(self, standing, copied):
        values = list(standing[0])
        for name, worth in copied:
            values[name] = worth
        return (tuple(values),) + standing[1:]

    def ticked(self, panel, old, copied):
        plain = self.plains[panel]
        new = self.with_copies(old, copied)
        start = plain.opened(new)
        own, told = plain.itself(start, ("tick",))
        told += plain.becoming(plain.opened(old), start)
        met, state = [], own
        while told:
            if (state, told) in met:
                return plain.closed(own)
            met.append((state, told))
            behind = plain.round(state, told, False)[0]
            told = plain.becoming(state, behind)
            state = behind
        return plain.closed(state)

    def person_moves(self, state):
        standings, down, crowd, words = state
        sides = [(kind, door, side) for kind in self.building[3] for door in self.building[2] for side in (0, 1)]
        for kind, door, side in sides:
            if crowds.count_there(self.building, crowd, kind, door[1 + side]):
                yield ("show", kind, door[0], side), self.signalled(state, ("card", door[0], side, kind))
        for kind, door, side in sides:
            if door[0] in self.free(standings) and crowds.count_there(self.building, crowd, kind, door[1 + side]):
                rows = [list(row) for row in crowd]
                at = self.building[3].index(kind)
                rows[at][self.building[1].index(door[1 + side])] -= 1
                rows[at][self.building[1].index(door[2 - side])] += 1
                there = (standings, down, tuple(map(tuple, rows)), words)
                yield ("go", kind, door[0], side), self.signalled(there, ("pass", door[0], side))

    def safes(self, at):
        return [(name, self.parting[4][name]) for name in self.lines[at][2]]

    def other_moves(self, state):
        standings, down, crowd, words = state
        for signal in machines.signals_in(self.text, self.world):
            if signal[0] not in ("card", "pass", "tick"):
                yield signal, self.signalled(state, signal)
        if down is not None:
            copied = [pair for at, line in enumerate(self.lines) if line[1] == down for pair in self.safes(at)]
            new = self.with_copies(standings[down], copied)
            yield ("rise", down), (standings[:down] + (new,) + standings[down + 1:], None, crowd, words)
        elif self.falls:
            for panel in range(self.parting[1]):
                yield ("fall", panel), (standings, panel, crowd, words)

    def line_options(self, at, state, letters):
        """(choice, what is read, the letters that are left)."""
        if self.lines[at][1] == state[1]:
            return [("stay", [], state[3][at])]
        found = [("stay", [], state[3][at]), ("silent", self.safes(at), state[3][at])]
        names = self.lines[at][2]
        if letters is not None:
            return found + [(letter, list(zip(names, letter)), ()) for letter in sorted(letters[at])]
        word = state[3][at]
        return found + [(letter, list(zip(names, letter)), word[place + 1:])
                        for letter, place in sorted((letter, place) for place, letter in enumerate(word))]

    def ticks(self, state, letters=None):
        standings, down, crowd, _ = state
        for row in itertools.product(*[self.line_options(at, state, letters) for at in range(len(self.lines))]):
            copied = [[] for _ in standings]
            for at, (_, read, _) in enumerate(row):
                copied[self.lines[at][1]] += read
            new = tuple(standing if panel == down else self.ticked(panel, standing, copied[panel])
                        for panel, standing in enumerate(standings))
            words = []
            for (owner, _, names), (_, _, left) in zip(self.lines, row):
                words.append(left if owner == down else left + (tuple(new[owner][0][name] for name in names),))
            yield ("tick", tuple(choice for choice, _, _ in row)), (new, down, crowd, tuple(words))

    def moves(self, state, letters=None):
        yield from self.person_moves(state)
        yield from self.other_moves(state)
        yield from self.ticks(state, letters)

    def is_broken(self, state, question, needs):
        standing = self.owned(state[0])
        plain = Plain(self.text)
        if not plain.true(plain.opened(standing), question, False):
            return False
        return all(crowds.count_there(self.building, state[2], kind, area) >= many for kind, area, many in needs)

    def controls(self, most):
        """All controls, all letters being known from the first on; None if there are too many."""
        letters = [set() for _ in self.lines]
        crowd = tuple((99,) * len(self.building[1]) for _ in self.building[3])
        while True:
            more = [set(lot) for lot in letters]
            first = self.begin((0,) * len(self.building[3]))
            met = [(first[0], None)]
            for standings, down in met:
                state = (standings, down, crowd, ((),) * len(self.lines))
                for label, behind in self.moves(state, letters):
                    if behind[:2] not in met:
                        met.append(behind[:2])
                    if label[0] == "tick":
                        for at, word in enumerate(behind[3]):
                            more[at] |= set(word)
                if len(met) > most:
                    return None
            if more == letters:
                return met
            letters = more

    def breaks(self, household, question, needs, most):
        """The least number of moves by which a household breaks the promise, None if by no more than most."""
        layer = [self.begin(household)]
        seen = set(layer)
        for many in range(most + 1):
            if any(self.is_broken(state, question, needs) for state in layer):
                return many
            later = []
            for state in layer if many < most else ():
                for _, behind in self.moves(state):
                    if behind not in seen:
                        seen.add(behind)
                        later.append(behind)
            layer = later
        return None


def is_within(one, other):
    return all(a <= b for a, b in zip(one, other))


class AnySilence(unittest.TestCase):
    def each(self, seed, many):
        for rand, text, parting, _, world in samples(seed, many):
            falls = rand.randint(0, 1)
            silent = Silent(text, parting, world, falls)
            met = silent.controls(90)
            if met is None:
                continue
            yield rand, text, parting, world, falls, silent, met

    def three(self, seed, many):
        """Parted among three panels, so that a panel can read two lines."""
        rand = seeded(seed)
        names = [("a", ("shut", "free")), ("b", ("shut", "free")), ("smoke:room", ("no", "yes")), ("x", ("p", "q"))]
        found = 0
        while found < many:
            text = ("text", SPLIT_DOORS, (("x", ("p", "q")),), (), (), random_rules(rand, names, 12))
            owners = (0, 1, rand.randrange(3), 2) + tuple(rand.randrange(3) for _ in range(6))
            parting = ("parting", 3, owners, 0, tuple(rand.choice(worths) for _, worths in names))
            text = lying(rand, text, parting)
            if text is None or len(panels.lines(text, parting)) < 3:
                continue
            world = ("world", (), tuple(button for button in range(2) if rand.random() < 0.6), (), 0)
            falls = rand.randint(0, 1)
            silent = Silent(text, parting, world, falls)
            met = silent.controls(60)
            found += 1
            if met is not None:
                yield rand, text, parting, world, falls, silent, met

    def test_three_panels(self):
        seen = {"many": 0, "some": 0, "none": 0}
        for rand, text, parting, world, falls, silent, met in self.three(5, 40):
            self.assertEqual(safe.controls(text, parting, world, falls), tuple(met))
            seen["many"] += len(met) > 10
            question, needs = self.question(rand, text), self.needs(rand)
            try:
                found, table = safe.any_silence(text, parting, world, falls, question, needs)
            except errors.TooMany:
                continue
            seen["some" if found else "none"] += 1
            self.check_table(text, parting, world, falls, question, needs, found, table)
            for household, course in found:
                if len(course) <= 2:
                    self.assertEqual(silent.breaks(household, question, needs, len(course)), len(course))
                state = silent.begin(household)
                for label in course:
                    behind = [new for one, new in silent.moves(state) if one == label]
                    state = max(behind, key=lambda new: sum(map(len, new[3])))
                self.assertTrue(silent.is_broken(state, question, needs))
            for number in range(3):
                if not any(is_within(household, (number,)) for household, _ in found):
                    self.assertIsNone(silent.breaks((number,), question, needs, 2))
        self.assertGreater(min(seen.values()), 2, seen)

    def question(self, rand, text):
        name, worths = rand.choice([pair for pair in rules.variables(text)])
        one = ("is", name, rand.choice(worths))
        other = ("stands", rand.choice("ab"), rand.choice(["shut", "free"]))
        return rand.choice([one, ("both", one, other), other, ("always",)])

    def needs(self, rand):
        return tuple((rand.choice(["guest", "any"]), rand.choice(["room", "room", "out"]), rand.randint(1, 2))
                     for _ in range(rand.randint(0, 2)))

    def test_controls(self):
        many = 0
        for _, text, parting, world, falls, _, met in self.each(1, 60):
            self.assertEqual(safe.controls(text, parting, world, falls), tuple(met))
            many += len(met) > 20
        self.assertGreater(many, 10)

    def test_households_against_steps(self):
        """Each course step by step, none shorter; households that none is within break nothing in a few moves."""
        seen = {"some": 0, "none": 0}
        for rand, text, parting, world, falls, silent, met in self.each(2, 70):
            question, needs = self.question(rand, text), self.needs(rand)
            try:
                found, table = safe.any_silence(text, parting, world, falls, question, needs)
            except errors.TooMany as error:
                self.assertEqual(error.most, 300)
                continue
            self.assertEqual(len(table), len(met))
            for household, course in found:
                state = silent.begin(household)
                for label in course:
                    # Of letters alike the first one is read: more is left behind it.
                    behind = [new for one, new in silent.moves(state) if one == label]
                    state = max(behind, key=lambda new: sum(map(len, new[3])))
                self.assertTrue(silent.is_broken(state, question, needs))
                if len(course) <= 4:
                    self.assertEqual(silent.breaks(household, question, needs, len(course)), len(course))
            for number in range(4):
                if not any(is_within(household, (number,)) for household, _ in found):
                    self.assertIsNone(silent.breaks((number,), question, needs, 3))
                    seen["none"] += 1
            seen["some"] += bool(found)
            self.check_table(text, parting, world, falls, question, needs, found, table)
        self.assertGreater(min(seen.values()), 5, seen)

    def check_table(self, text, parting, world, falls, question, needs, found, table):
        args = (text, parting, world, falls, question, needs)
        self.assertIs(safe.is_silence_table(*args, table), not found)
        self.assertIs(safe.is_silence_table(*args, [list(row) for row in table]), not found)
        if not found:
            for at, row in enumerate(table):
                for place in range(len(row)):
                    less = table[:at] + (row[:place] + row[place + 1:],) + table[at + 1:]
                    self.assertIs(safe.is_silence_table(*args, less), False)

    def test_first_moves(self):
        """Courses are those of the first moves that leave one move less."""
        checked = 0
        for rand, text, parting, world, falls, silent, _ in self.each(3, 40):
            question, needs = self.question(rand, text), self.needs(rand)
            try:
                found, _ = safe.any_silence(text, parting, world, falls, question, needs)
            except errors.TooMany:
                continue
            for household, course in found:
                if not 1 <= len(course) <= 3:
                    continue
                state = silent.begin(household)
                for at, label in enumerate(course):
                    left = len(course) - at - 1
                    going = [(one, new) for one, new in silent.moves(state) if self.can_break(silent, new, question, needs, left)]
                    self.assertEqual(going[0][0], label)
                    state = max([new for one, new in going if one == label], key=lambda new: sum(map(len, new[3])))
                checked += 1
        self.assertGreater(checked, 8)

    def can_break(self, silent, state, question, needs, most):
        if silent.is_broken(state, question, needs):
            return True
        return most > 0 and any(self.can_break(silent, new, question, needs, most - 1) for _, new in silent.moves(state))

    def chain(self, safes=("shut", "shut", "no")):
        """Button 0 frees a, and button 1 shuts it; panel 1 lets b be free only where it has heard that a is shut."""
        made = ((("button", 0), ("always",), (("let", "a", "free"),)), (("button", 1), ("always",), (("let", "a", "shut"),)),
                (("button", 2), ("is", "a", "shut"), (("let", "b", "free"),)), (("tick",), ("is", "a", "free"), (("let", "b", "shut"),)))
        owners = (0, 1, 0, 0, 0, 1, 0, 0, 0)
        return ("text", SPLIT_DOORS, (), (), (), made), ("parting", 2, owners, 0, safes)

    def test_by_hand(self):
        text, parting = self.chain()
        world = ("world", (), (0, 1, 2), (), 0)
        both = ("both", ("stands", "a", "free"), ("stands", "b", "free"))
        self.assertEqual(panels.lines(text, parting), ((0, 1, (0,)),))
        # Nobody is needed: a frees behind the back of panel 1.
        found, table = safe.any_silence(text, parting, world, 0, both, ())
        self.assertEqual(found, [((0,), [("button", 0), ("button", 2)])])
        self.assertEqual(safe.any_silence(text, parting, world, 0, both, (("any", "room", 2),))[0],
                         [((2,), [("button", 0), ("go", "guest", "a", 0), ("go", "guest", "a", 0), ("button", 2)])])
        self.assertEqual(len(table), len(safe.controls(text, parting, world, 0)))
        # b is never free while a is stuck.
        self.assertEqual(safe.any_silence(text, parting, world, 0, ("stands", "b", "free"), (("guest", "room", 1),))[0][0][0], (1,))
        kept, table = safe.any_silence(text, parting, ("world", (), (0, 1), (), 0), 1, ("is", "b", "free"), ())
        self.assertEqual((kept, set(table)), ([], {()}))
        self.assertIs(safe.is_silence_table(text, parting, ("world", (), (0, 1), (), 0), 1, ("is", "b", "free"), (), table), True)

    def test_safe_tables(self):
        """At the beginning panel 1 knows that a is shut; safe values let it know that, or not, behind silence."""
        made = ((("button", 0), ("always",), (("let", "a", "free"),)),
                (("tick",), ("both", ("is", "a", "free"), ("is", "smoke:room", "no")), (("let", "b", "free"),)))
        text = ("text", SPLIT_DOORS, (), (), (), made)
        owners = (0, 1, 0, 0, 0, 0, 0, 0, 0)
        parting = ("parting", 2, owners, 1, ("free", "free", "yes"))
        world = ("world", (), (), (), 0)
        self.assertEqual(panels.lines(text, parting), ((0, 1, (0, 2)),))
        tables = safe.safe_tables(text, parting, world, 0, ("is", "b", "free"), ())
        # Without buttons a is never free: only silence can make panel 1 believe so. b is on no line.
        self.assertEqual(tables, [("free", "free", "yes"), ("shut", "free", "no"), ("shut", "free", "yes")])
        for safes in tables + [("free", "free", "no")]:
            found, _ = safe.any_silence(text, parting[:4] + (safes,), world, 0, ("is", "b", "free"), ())
            self.assertIs(found == [], safes in tables)

    def test_safe_tables_against_each(self):
        some = 0
        for rand, text, parting, world, falls, _, _ in self.each(4, 40):
            question, needs = self.question(rand, text), self.needs(rand)
            lines = panels.lines(text, parting)
            on = {name for _, _, names in lines for name in names}
            try:
                tables = safe.safe_tables(text, parting, world, falls, question, needs)
                want = []
                for safes in itertools.product(*[worths if at in on else (parting[4][at],)
                                                 for at, (_, worths) in enumerate(rules.variables(text))]):
                    if safe.any_silence(text, parting[:4] + (safes,), world, falls, question, needs)[0] == []:
                        want.append(safes)
            except errors.TooMany as error:
                self.assertEqual(error.most, 300)
                continue
            self.assertEqual(tables, sorted(want))
            some += 0 < len(tables) < 2 ** len(on)
        self.assertGreater(some, 0)

    def wide(self, more):
        """A line with six variables of two values, or with one of three instead of one of two."""
        names = ("p", "q", "r", "s")
        own = tuple((name, ("x", "y")) for name in names) + (("t", ("x", "y", "z")[:3 if more else 2]),)
        test = helper.all_of([("is", name, "x") for name in names] + [("is", "t", "x"), ("is", "a", "free")])
        made = ((("tick",), test, (("let", "b", "free"),)),)
        owners = (0, 1, 0) + (0,) * 5 + (0,) * 6
        return ("text", SPLIT_DOORS, own, (), (), made), ("parting", 2, owners, 0, ("shut", "shut", "no") + ("x",) * 5)

    def test_sixty_four_safes(self):
        text, parting = self.wide(False)
        self.assertEqual(panels.lines(text, parting), ((0, 1, (0, 3, 4, 5, 6, 7)),))
        tables = safe.safe_tables(text, parting, QUIET, 0, ("is", "b", "free"), ())
        self.assertEqual(len(tables), 63)
        self.assertEqual(tables, sorted(tables))
        text, parting = self.wide(True)
        with self.assertRaises(errors.TooMany) as caught:
            safe.safe_tables(text, parting, QUIET, 0, ("is", "b", "free"), ())
        self.assertEqual(caught.exception.most, 64)
        # What stands ahead of it comes first.
        with self.assertRaises(errors.BadNeeds):
            safe.safe_tables(text, parting, QUIET, 0, ("is", "b", "free"), [])

    def test_three_hundred_controls(self):
        for many in (300, 301):
            text = helper.ring_of(many)
            size = len(rules.variables(text))
            parting = ("parting", 2, (0,) * (size + 6), 0, tuple(worths[0] for _, worths in rules.variables(text)))
            args = (text, parting, QUIET, 0)
            if many == 300:
                self.assertEqual(len(safe.controls(*args)), 300)
                # From each standing of the ring the last one comes: as many least loads.
                last = helper.all_of([("is", name, worth) for name, worth in zip(helper.DIGITS, helper.digits_of(299))])
                found, table = safe.any_silence(*args, last, ())
                self.assertEqual((len(found[0][1]), sum(map(len, table))), (299, 300))
                continue
            for call, more in [(safe.controls, ()), (safe.any_silence, (("always",), ())), (safe.safe_tables, (("always",), ())),
                               (safe.is_silence_table, (("always",), (), []))]:
                with self.assertRaises(errors.TooMany) as caught:
                    call(*args, *more)
                self.assertEqual(caught.exception.most, 300)

    def test_three_hundred_loads(self):
        """Of two kinds one is there: two least loads for each control."""
        for many in (150, 151):
            text = helper.ring_of(many)
            text = put(text, (1, 3), ("guest", "staff"))
            size = len(rules.variables(text))
            parting = ("parting", 2, (0,) * (size + 6), 0, tuple(worths[0] for _, worths in rules.variables(text)))
            args = (text, parting, QUIET, 0, ("always",), (("any", "room", 1),))
            if many == 150:
                found, table = safe.any_silence(*args)
                self.assertEqual((found, sum(map(len, table))), ([], 300))
                self.assertIs(safe.is_silence_table(*args, table), True)
                continue
            with self.assertRaises(errors.TooMany) as caught:
                safe.any_silence(*args)
            self.assertEqual(caught.exception.most, 300)

    def test_loads_that_wait_for_letters(self):
        """b frees only where two unlike letters have been read, one behind the other: loads with words."""
        made = ((("button", 0), ("is", "z", "k"), (("let", "z", "m"),)), (("button", 1), ("is", "z", "m"), (("let", "z", "n"),)),
                (("button", 2), ("is", "z", "n"), (("let", "z", "o"),)), (("becomes", "z", "m"), ("always",), (("let", "x", "q"),)),
                (("becomes", "z", "n"), ("is", "x", "q"), (("let", "b", "free"),)))
        text = ("text", SPLIT_DOORS, (("x", ("p", "q")), ("z", ("k", "m", "n", "o"))), (), (), made)
        parting = ("parting", 2, (0, 1, 0, 1, 0) + (0,) * 6, 0, ("shut", "shut", "no", "p", "k"))
        world = ("world", (), (0, 1, 2), (), 0)
        args = (text, parting, world, 0, ("is", "b", "free"), (("guest", "out", 1),))
        found, table = safe.any_silence(*args)
        silent = Silent(text, parting, world, 0)
        self.assertEqual(panels.lines(text, parting), ((0, 1, (4,)),))
        (household, course), = found
        self.assertEqual(household, (1,))
        self.assertEqual(len(course), silent.breaks((1,), args[4], args[5], 7))
        words = {word for row in table for _, (word,) in row}
        self.assertEqual(words, {(), (("m",),), (("m",), ("n",)), (("n",),)})
        for at, ((one, other), _) in enumerate(safe.controls(*args[:4])):
            # Panel 1 has read nothing yet: both letters must be on their way.
            if one[0][4] == "o" and other[0][3:] == ("p", "k"):
                self.assertEqual(table[at], tuple((crowd, ((("m",), ("n",)),)) for crowd in [((0, 1),), ((1, 0),)]))
        # Promises that words alone keep: the letter that was sent first is not there at the beginning.
        kept, table = safe.any_silence(text, parting, ("world", (), (1,), (), 0), 1, *args[4:])
        self.assertEqual(kept, [])
        self.assertIs(safe.is_silence_table(text, parting, ("world", (), (1,), (), 0), 1, *args[4:], table), True)

    def test_wrong_tables(self):
        text, parting = self.chain(("free", "shut", "no"))
        world = ("world", (), (1, 2), (), 0)
        args = (text, parting, world, 0, ("both", ("stands", "a", "free"), ("stands", "b", "free")), (("guest", "room", 1),))
        found, table = safe.any_silence(*args)
        self.assertEqual(found, [])
        self.assertIs(safe.is_silence_table(*args, table), True)
        self.assertTrue(any(table) or True)
        zero = ((0, 1),)
        more = tuple(row if row else ((zero, ((("free",),),)),) for row in table)
        self.assertIs(type(safe.is_silence_table(*args, more)), bool)
        for at in range(len(table)):
            for load in [((1, 0),), (((0, 0),), ((),)), (((0, 0),), ()), (((0, True),), ((("free",),),)), [((0, 1),), ((("free",),),)],
                         (((0, 1),), ((("no",),),)), (((0, 1),), (["free"],)), (((0, 1),), (("free",),)), None]:
                wrong = table[:at] + ((load,),) + table[at + 1:]
                if load != (((0, 0),), ((),)) or at == 0:
                    self.assertIs(safe.is_silence_table(*args, wrong), False)
        for value in helper.any_values() + [table[1:], table + ((),), None]:
            self.assertIs(safe.is_silence_table(*args, value), False)
        self.assertEqual(SMALL[0], "building")

    def test_errors_in_their_order(self):
        nowhere = SPLIT[:5] + (((("card", "any", 0, "any"), ("always",), ()),) + SPLIT[5],)
        right = (SPLIT, PARTING, QUIET, 0, ("stands", "front", "free"), (("any", "hall", 1),))
        named = [errors.BadText, errors.BadParting, errors.BadWorld, errors.BadFalls, errors.BadQuestion, errors.BadNeeds]
        calls = [(safe.controls, 4), (safe.any_silence, 6), (safe.safe_tables, 6), (safe.is_silence_table, 6)]
        for call, many in calls:
            rest = (None,) if call is safe.is_silence_table else ()
            for at in range(many):
                for value in [None, (), True, 2, "no", [[]]]:
                    if not (at == 5 and value == ()):
                        with self.assertRaises(named[at]):
                            call(*right[:at], *([value] * (many - at)), *rest)
                        with self.assertRaises(named[at]):
                            call(*put(right[:many], (at,), value), *rest)
            with self.assertRaises(errors.NoPlace):
                call(nowhere, *right[1:many], *rest)
            with self.assertRaises(errors.BadFalls):
                call(nowhere, PARTING, QUIET, None, *right[4:many], *rest)
        for text in (random_rules(seeded(1), [("a", ("shut", "free"))] * 4, 2),):
            self.assertEqual(len(text), 2)


if __name__ == "__main__":
    unittest.main()
