"""Values near to right ones: each question about a form against a second description of it, by schemes.

A scheme is a function that tells whether a value is of a form. The values are made from right ones
by another item, one item more, less or doubled, or two items exchanged, at any depth.
"""
import unittest

import helper
from helper import BEGIN, HOUSE, RINGS, TEXT, nodes, put, random_text, random_world, seeded
from housekept import (air, alarms, buildings, courses, crowds, errors, judging, letters, machines, panels, promises,
                       reasons, rounds, rules, webs)
from test_wrong import AIR, CROWD, LOADS, PARTING, PROMISE, SPLIT, WATCH, WATCHED, WEB


def whole(low, high=None):
    return lambda value: type(value) is int and value >= low and (high is None or value <= high)


def word(*words):
    return lambda value: type(value) is str and value in words


def name(value):
    return type(value) is str and 0 < len(value) < 9 and value != "any" and not value.strip("abcdefghijklmnopqrstuvwxyz")


def exact(*parts):
    return lambda value: type(value) is tuple and len(value) == len(parts) and all(
        part(item) for part, item in zip(parts, value))


def many(part, low, high, kinds=(tuple,)):
    return lambda value: type(value) in kinds and low <= len(value) <= high and all(part(item) for item in value)


def none(value):
    return value is None


def either(*schemes):
    return lambda value: any(scheme(value) for scheme in schemes)


def distinct(items):
    return all(items[at] != items[other] for at in range(len(items)) for other in range(at))


def rising(items):
    return all(one < other for one, other in zip(items, items[1:]))


def is_house(value):
    names = exact(word("building"), many(name, 2, 6), lambda part: True, many(name, 1, 3), lambda part: True)
    if not names(value) or not distinct(value[1]) or not distinct(value[3]):
        return False
    area = word(*value[1])
    if not many(exact(name, area, area, word("leaf", "gate")), 1, 6)(value[2]):
        return False
    doors = [door[0] for door in value[2]]
    if not distinct(doors) or any(door[1] == door[2] for door in value[2]):
        return False
    if not many(exact(word(*value[3]), word(*doors), whole(0, 1)), 0, 99)(value[4]):
        return False
    return rising([(value[3].index(kind), doors.index(door), side) for kind, door, side in value[4]])


class Forms:
    """The schemes of a text's parts, made from its names."""

    def __init__(self, text):
        self.plain = helper.Plain(text)
        building = text[1]
        self.doors = word(*self.plain.doors)
        self.inner = word(*building[1][1:])
        self.kinds = word(*building[3])
        self.pairs = [(one, worth) for one, worths in self.plain.names.items() for worth in worths]
        self.free = word("any")

    def pair(self, value):
        return exact(str_, str_)(value) and value in self.pairs

    def signal(self, *more):
        extra = word(*more)
        door, side = either(self.doors, extra), either(whole(0, 1), extra)
        return either(exact(word("card"), door, side, either(self.kinds, extra)), exact(word("pass"), door, side),
                      exact(word("smoke"), either(self.inner, extra), either(word("yes", "no"), extra)),
                      exact(word("button"), whole(0, 5)), exact(word("stuck", "mended"), door), exact(word("tick")))

    def becomes(self, *more):
        def scheme(value):
            if not exact(word("becomes"), word(*self.plain.names), str_)(value):
                return False
            return value[1:] in self.pairs or value[2] in more
        return scheme

    def when(self, value):
        return either(self.signal("any"), self.becomes("any"), exact(word("ran"), word(*self.plain.timers)))(value)

    def told(self, value):
        return either(self.signal(), self.becomes(), exact(word("ran"), word(*self.plain.timers)))(value)

    def condition(self, deep, asked=False):
        leaves = [exact(word("always")), exact(word("running"), word(*self.plain.timers)),
                  lambda value: type(value) is tuple and value[:1] == ("is",) and self.pair(value[1:])]
        leaves += [exact(word("least"), word(one), whole(1, cap)) for one, cap in self.plain.counters.items()]
        leaves.append(exact(word("stands"), self.doors, word("shut", "free")) if asked else exact(word("right")))
        if deep > 1:
            leaves.append(lambda value: exact(word("not"), self.condition(deep - 1, asked))(value))
            leaves.append(lambda value: exact(word("both", "either"), self.condition(deep - 1, asked),
                                              self.condition(deep - 1, asked))(value))
        return either(*leaves)

    def deeds(self, value):
        def lets(deed):
            return exact(word("let"), str_, str_)(deed) and deed[1:] in self.pairs and ":" not in deed[1]

        kinds = [lets, exact(word("stop"), word(*self.plain.timers)),
                 exact(word("more", "less"), word(*self.plain.counters)), exact(word("say"), whole(0, 9))]
        kinds += [exact(word("start"), word(one), whole(1, most)) for one, most in self.plain.timers.items()]
        # Names of variables, timers and counters are unlike, and no word of a deed is one.
        return many(either(*kinds), 0, 4)(value) and distinct([deed[1] for deed in value])

    def standing(self, value):
        parts = [exact(*[word(*worths) for worths in self.plain.names.values()]),
                 exact(*[either(none, whole(1, most)) for most in self.plain.timers.values()]),
                 exact(*[whole(0, cap) for cap in self.plain.counters.values()]),
                 exact(*[either(none, word("shut", "free")) for _ in self.plain.doors])]
        return exact(*parts)(value)


def str_(value):
    return type(value) is str


def second_fault(value):
    """Where a value is no text, by schemes."""
    if not exact(word("text"), *[lambda part: True] * 5)(value):
        return ()
    if not is_house(value[1]):
        return (1,)
    used = [door[0] for door in value[1][2]]
    rows = {2: (5, many(name, 2, 4)), 3: (3, whole(1, 12)), 4: (2, whole(1, 5))}
    for part, (most, scheme) in rows.items():
        if type(value[part]) is not tuple or len(value[part]) > most:
            return (part,)
        for at, row in enumerate(value[part]):
            if not exact(name, scheme)(row) or row[0] in used or (part == 2 and not distinct(row[1])):
                return (part, at)
            used.append(row[0])
    if type(value[5]) is not tuple or not 0 < len(value[5]) <= 30:
        return (5,)
    forms = Forms(value)
    for at, rule in enumerate(value[5]):
        if type(rule) is not tuple or len(rule) != 3:
            return (5, at)
        for part, scheme in enumerate((forms.when, forms.condition(6), forms.deeds)):
            if not scheme(rule[part]):
                return (5, at, part)
    return None


def near(value, rand, others):
    """A value that is near to one."""
    path, item = rand.choice(list(nodes(value)))
    way = rand.randrange(6)
    if way == 0 and type(item) is tuple and item:
        at = rand.randrange(len(item))
        return put(value, path, item[:at] + item[at + 1:])
    if way == 1 and type(item) is tuple and item:
        at = rand.randrange(len(item))
        return put(value, path, item[:at + 1] + item[at:])
    if way == 2 and type(item) is tuple and len(item) > 1:
        at = rand.randrange(len(item) - 1)
        return put(value, path, item[:at] + (item[at + 1], item[at]) + item[at + 2:])
    if way == 3 and type(item) is int:
        return put(value, path, item + rand.choice([-1, 1, 2, 8]))
    if way == 4:
        return put(value, path, rand.choice(list(nodes(value)))[1])
    return put(value, path, rand.choice(others))


class Near(unittest.TestCase):
    def setUp(self):
        self.others = helper.any_values() + [0, 1, 2, 5, 6, "yes", "no", "shut", "free", "guest", "out", "hall", "lab", "front",
                                             ("always",), ("tick",), (0,), "night", "leaf", "gate", "out", "many"]

    def check(self, question, scheme, value, seeds=600, least=1):
        """A question and a scheme tell the same of a value, and of values near to it."""
        self.assertIs(question(value), True)
        self.assertIs(bool(scheme(value)), True)
        right = 0
        for seed in range(seeds):
            rand = seeded(seed)
            other = near(value, rand, self.others)
            if seed % 5 == 0:
                other = near(other, rand, self.others)
            told = question(other)
            self.assertIs(type(told), bool)
            self.assertEqual(told, bool(scheme(other)), other)
            right += told
        self.assertGreaterEqual(right, least)

    def test_buildings(self):
        self.check(buildings.is_building, is_house, HOUSE, 3000, 50)

    def test_texts(self):
        right = 0
        for seed in range(4000):
            rand = seeded(seed)
            text = rand.choice([TEXT, RINGS]) if seed % 2 else random_text(rand, many=5)
            other = near(text, rand, self.others)
            if seed % 5 == 0:
                other = near(other, rand, self.others)
            self.assertEqual(rules.fault(other), second_fault(other), other)
            right += rules.is_text(other)
        self.assertGreater(right, 100)

    def test_standings_signals_and_told_things(self):
        forms = Forms(TEXT)
        self.check(lambda value: rules.is_standing(TEXT, value), forms.standing, BEGIN, 1500, 20)
        for signal in (("card", "front", 0, "guest"), ("pass", "inner", 1), ("smoke", "lab", "yes"), ("button", 3),
                       ("stuck", "front"), ("tick",)):
            self.check(lambda value: rules.is_signal(TEXT, value), forms.signal(), signal, 400, 1)

        def told(value):
            try:
                rounds.once(TEXT, BEGIN, [value], False)
            except errors.BadTold:
                return False
            return True

        def thing(value):
            try:
                reasons.reason(TEXT, BEGIN, ("tick",), value)
            except errors.BadThing:
                return False
            return True

        for one in (("ran", "lamp"), ("becomes", "mode", "day"), ("button", 2)):
            self.check(told, forms.told, one, 400)
        plain = forms.plain
        things = either(exact(word("variable"), word(*plain.names)), exact(word("timer"), word(*plain.timers)),
                        exact(word("counter"), word(*plain.counters)))
        for one in (("variable", "smoke:hall"), ("timer", "lamp"), ("counter", "seen")):
            self.check(thing, things, one, 400)

    def test_questions(self):
        machine = machines.Machine(TEXT, ("world", (), (), (), 0))

        def asked(value):
            try:
                judging.met(machine, value)
            except errors.BadQuestion:
                return False
            return True

        deep = ("not", ("not", ("not", ("not", ("either", ("stands", "front", "free"), ("is", "mode", "day"))))))
        for question in (("both", ("stands", "inner", "shut"), ("not", ("running", "lamp"))), ("least", "seen", 1), deep):
            self.check(asked, Forms(TEXT).condition(6, True), question, 800, 5)

    def test_worlds(self):
        def scheme(value):
            inner, doors = word(*HOUSE[1][1:]), [door[0] for door in HOUSE[2]]
            if not exact(word("world"), many(inner, 0, 2), many(whole(0, 5), 0, 6), many(word(*doors), 0, 2), whole(0))(value):
                return False
            places = [[HOUSE[1].index(area) for area in value[1]], value[2], [doors.index(door) for door in value[3]]]
            return all(rising(row) for row in places) and value[4] <= len(value[3])

        self.check(lambda value: machines.is_world(TEXT, value), scheme,
                   ("world", ("hall", "lab"), (1, 3), ("front", "inner"), 1), 1500, 20)
        for seed in range(20):
            text = random_text(seeded(seed))
            self.assertIs(machines.is_world(text, random_world(seeded(seed), text)), True)

    def test_webs_moves_and_promises(self):
        spot = exact(name, name)

        def is_moving(value):
            def label(one):
                return many(either(str_, lambda part: type(part) is int), 1, 99)(one) and str_(one[0])

            if not exact(label, either(none, spot), either(none, spot), whole(0))(value):
                return False
            need, there = value[1:3]
            return (need is None) == (there is None) and (need is None or need[0] == there[0])

        def scheme(value):
            if not exact(word("web"), many(whole(0), 1, 99), many(many(is_moving, 0, 99), 1, 99))(value):
                return False
            size = len(value[2])
            moves = [move for row in value[2] for move in row]
            ends = all(move[3] < size for move in moves) and all(begin < size for begin in value[1])
            return ends and rising(value[1]) and all(distinct(row) for row in value[2])

        self.check(webs.is_web, scheme, WEB, 2500, 50)

        def guest(move):
            return move[1] is None or (move[1][0] in HOUSE[3] and move[1][1] in HOUSE[1] and move[2][1] in HOUSE[1])

        def leads(value):
            try:
                courses.ahead(HOUSE, value, CROWD)
            except errors.BadMove:
                return False
            return True

        for move in (WEB[2][0][0], WEB[2][0][1]):
            self.check(leads, lambda value: is_moving(value) and guest(value), move, 1000, 5)

        def fits_house(value):
            try:
                promises.is_promise(HOUSE, value, None)
            except errors.BadWeb:
                return False
            return True

        self.check(fits_house, lambda value: scheme(value) and all(guest(move) for row in value[2] for move in row),
                   WEB, 1500, 20)
        need = exact(word("any", *HOUSE[3]), word(*HOUSE[1]), whole(1, 3))
        self.check(lambda value: promises.is_promise(HOUSE, WEB, value),
                   lambda value: exact(word("never"), many(whole(0, 1), 0, 2), many(need, 0, 2))(value) and rising(value[1]),
                   PROMISE, 1500, 20)

    def test_crowds_and_loads(self):
        crowd = many(many(whole(0), 3, 3), 2, 2)
        self.check(lambda value: crowds.is_crowd(HOUSE, value), crowd, CROWD, 800, 20)
        self.check(lambda value: crowds.is_household(HOUSE, value), many(whole(0), 2, 2), (3, 1), 300, 20)

        def loaded(value):
            try:
                promises.are_met(HOUSE, WEB, value, 0, CROWD)
            except errors.BadLoads:
                return False
            return True

        self.check(loaded, many(many(crowd, 0, 99), 2, 2), LOADS, 800, 20)

        def listed(value):
            try:
                crowds.least_crowds(HOUSE, value)
            except errors.BadCrowds:
                return False
            return True

        self.check(listed, many(crowd, 0, 99, (tuple, list)), (CROWD, CROWD), 500, 20)

    def test_airs_and_settings(self):
        degree = whole(-40, 40)

        def scheme(value):
            room = exact(name, degree, degree, degree)
            form = exact(word("air"), many(room, 1, 3), whole(1, 12), lambda part: True, lambda part: True,
                         exact(degree, degree, degree, whole(0, 8)))
            if not form(value):
                return False
            rooms = [row[0] for row in value[1]]
            heats = exact(name, word(*rooms), lambda gain: whole(-60, 60)(gain) and gain != 0)
            leaks = exact(word(*rooms), word("out", *rooms), whole(1, value[2]), either(none, name))
            if not many(leaks, 0, 6)(value[3]) or not many(heats, 0, 3)(value[4]):
                return False
            low, high, first, _ = value[5]
            shares = [sum(row[2] for row in value[3] if row[0] == one) for one in rooms]
            return (distinct(rooms) and "out" not in rooms and distinct([row[0] for row in value[4]])
                    and distinct([(row[0], row[1], row[3]) for row in value[3]]) and max(shares) <= value[2]
                    and all(row[0] != row[1] for row in value[3]) and low <= first <= high and high - low <= 8
                    and all(row[1] <= row[3] <= row[2] and row[2] - row[1] <= 8 for row in value[1]))

        self.check(air.is_air, scheme, AIR, 4000, 100)

        def setting(value):
            form = exact(many(word("stove"), 0, 1), many(word("inner"), 0, 1))
            return form(value)

        self.check(lambda value: air.is_setting(AIR, value), setting, (("stove",), ("inner",)), 400, 5)

    def test_watches_and_their_standings(self):
        def scheme(value):
            form = exact(word("watch"), many(exact(whole(0, 9), whole(1, 3), whole(1, 4)), 1, 3),
                         many(exact(name, whole(0, 4)), 1, 3), whole(0, 3), whole(1, 3), word("keep", "pass"))
            return form(value) and rising([row[0] for row in value[1]]) and distinct(
                [row[0] for row in value[2]]) and value[3] <= len(value[2])

        self.check(alarms.is_watch, scheme, WATCH, 2500, 50)

        def stands(value):
            try:
                alarms.shortened(WATCH, value)
            except errors.BadStanding:
                return False
            return True

        waiting = many(exact(either(whole(1, 1), whole(4, 4)), whole(0)), 0, 2)
        self.check(stands, lambda value: exact(waiting, exact(whole(-1, 2), whole(-1, 0)))(value) and distinct(
            [pair[0] for pair in value[0]]), WATCHED, 1200, 20)

    def test_partings_nets_and_letters(self):
        worths = [word(*row) for _, row in rules.variables(SPLIT)]

        def scheme(value):
            form = exact(word("parting"), whole(2, 3), many(whole(0), 13, 13), whole(0, 3), exact(*worths))
            return form(value) and max(value[2]) < value[1]

        self.check(lambda value: panels.is_parting(SPLIT, value), scheme, PARTING, 2000, 50)
        self.check(letters.is_net, exact(word("net"), whole(0, 3), either(none, whole(0, 3))), ("net", 2, 1), 600, 20)
        self.check(letters.is_letters, lambda value: many(many(whole(0), 0, 99), 0, 99, (tuple, list))(value) and all(
            number <= at for at, came in enumerate(value) for number in came), ((), (1, 0), (2,), (1, 3)), 1500, 50)


if __name__ == "__main__":
    unittest.main()
