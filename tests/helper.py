"""What the tests share: samples, a plain second way to work off signals, and wrong values."""
import copy
import itertools
import random

from housekept import bench, comfort, errors, machines, rules, tables

HOUSE = ("building", ("out", "hall", "lab"),
         (("front", "out", "hall", "gate"), ("inner", "hall", "lab", "leaf")),
         ("guest", "staff"),
         (("guest", "front", 0), ("staff", "front", 0), ("staff", "inner", 0), ("staff", "inner", 1)))

TEXT = ("text", HOUSE,
        (("mode", ("day", "night")),),
        (("lamp", 3),),
        (("seen", 2),),
        ((("card", "any", "any", "any"), ("right",), (("let", "front", "free"), ("say", 1))),
         (("card", "inner", "any", "staff"), ("right",), (("let", "inner", "free"),)),
         (("becomes", "front", "free"), ("always",), (("start", "lamp", 3), ("more", "seen"))),
         (("ran", "lamp"), ("always",), (("let", "front", "shut"), ("say", 2))),
         (("pass", "inner", "any"), ("always",), (("let", "inner", "shut"),)),
         (("button", 1), ("is", "mode", "day"), (("let", "mode", "night"),)),
         (("button", 1), ("is", "mode", "night"), (("let", "mode", "day"), ("say", 3))),
         (("smoke", "any", "yes"), ("always",), (("let", "front", "free"), ("let", "inner", "free"), ("say", 9)))))

BEGIN = (("shut", "shut", "no", "no", "day"), (None,), (0,), (None, None))

WORLD = ("world", ("lab",), (1,), ("inner",), 1)

# Two rules that clash at button 2, and two that chase one another for ever at button 3.
RINGS = ("text", HOUSE, (("flag", ("off", "on")),), (("wait", 2),), (("made", 1),),
         ((("button", 2), ("always",), (("let", "inner", "free"), ("say", 4))),
          (("button", 2), ("always",), (("let", "inner", "shut"), ("more", "made"))),
          (("button", 3), ("always",), (("let", "flag", "on"), ("say", 5))),
          (("becomes", "flag", "on"), ("always",), (("let", "flag", "off"),)),
          (("becomes", "flag", "off"), ("always",), (("let", "flag", "on"),))))

SMALL = ("building", ("out", "room"), (("door", "out", "room", "leaf"),), ("guest",), (("guest", "door", 0),))

PLAIN = ("text", SMALL, (), (), (),
         ((("card", "door", "any", "any"), ("right",), (("let", "door", "free"),)),
          (("pass", "door", "any"), ("always",), (("let", "door", "shut"),)),
          (("tick",), ("always",), (("let", "door", "shut"),))))


SPLIT_DOORS = ("building", ("out", "room"), (("a", "out", "room", "leaf"), ("b", "out", "room", "leaf")), ("guest",),
               (("guest", "a", 0),))


class Plain:
    """A text worked off as [24] tells it, over dicts, without any thought of speed."""

    def __init__(self, text):
        self.text = text
        building = text[1]
        self.doors = {door[0]: door for door in building[2]}
        self.names = {door: ("shut", "free") for door in self.doors}
        self.names.update({"smoke:" + area: ("no", "yes") for area in building[1][1:]})
        self.names.update(dict(text[2]))
        self.timers = dict(text[3])
        self.counters = dict(text[4])

    def opened(self, standing):
        return {"variable": dict(zip(self.names, standing[0])), "timer": dict(zip(self.timers, standing[1])),
                "counter": dict(zip(self.counters, standing[2])), "stuck": dict(zip(self.doors, standing[3]))}

    def closed(self, state):
        return tuple(tuple(state[part].values()) for part in ("variable", "timer", "counter", "stuck"))

    def stands(self, state, door):
        return state["variable"][door] if state["stuck"][door] is None else state["stuck"][door]

    def void(self, state, signal):
        if signal[0] == "pass":
            return self.stands(state, signal[1]) == "shut"
        if signal[0] == "stuck":
            return state["stuck"][signal[1]] is not None
        return signal[0] == "mended" and state["stuck"][signal[1]] is None

    def becoming(self, old, new):
        return [("becomes", name, new["variable"][name]) for name in self.names
                if old["variable"][name] != new["variable"][name]]

    def itself(self, state, signal):
        new = copy.deepcopy(state)
        ran = []
        if signal[0] == "smoke":
            new["variable"]["smoke:" + signal[1]] = signal[2]
        elif signal[0] == "pass" and self.doors[signal[1]][3] == "gate":
            new["variable"][signal[1]] = "shut"
        elif signal[0] == "stuck":
            new["stuck"][signal[1]] = self.stands(state, signal[1])
        elif signal[0] == "mended":
            new["stuck"][signal[1]] = None
        elif signal[0] == "tick":
            for name, left in state["timer"].items():
                if left is not None:
                    new["timer"][name] = left - 1 or None
                    if left == 1:
                        ran.append(("ran", name))
        return new, [signal] + ran + self.becoming(state, new)

    def true(self, state, condition, right):
        word, *parts = condition
        if word == "not":
            return not self.true(state, parts[0], right)
        if word == "both":
            return self.true(state, parts[0], right) and self.true(state, parts[1], right)
        if word == "either":
            return self.true(state, parts[0], right) or self.true(state, parts[1], right)
        if word == "is":
            return state["variable"][parts[0]] == parts[1]
        if word == "least":
            return state["counter"][parts[0]] >= parts[1]
        if word == "running":
            return state["timer"][parts[0]] is not None
        if word == "stands":
            return self.stands(state, parts[0]) == parts[1]
        return right if word == "right" else True

    def fits(self, when, thing):
        return when[0] == thing[0] and all(one in ("any", other) for one, other in zip(when[1:], thing[1:]))

    def round(self, state, told, right):
        fired = tuple(at for at, (when, condition, _) in enumerate(self.text[5])
                      if any(self.fits(when, thing) for thing in told) and self.true(state, condition, right))
        new = copy.deepcopy(state)
        done, clashes, words = {}, [], set()
        kinds = {"let": "variable", "start": "timer", "stop": "timer", "more": "counter", "less": "counter"}
        for rule in fired:
            for deed in self.text[5][rule][2]:
                if deed[0] == "say":
                    words.add(deed[1])
                    continue
                thing = (kinds[deed[0]], deed[1])
                if thing in done:
                    if done[thing][1] != deed:
                        clashes.append((done[thing][0], rule, thing))
                    continue
                done[thing] = (rule, deed)
                if deed[0] == "more":
                    new["counter"][deed[1]] = min(self.counters[deed[1]], state["counter"][deed[1]] + 1)
                elif deed[0] == "less":
                    new["counter"][deed[1]] = max(0, state["counter"][deed[1]] - 1)
                else:
                    new[thing[0]][deed[1]] = None if deed[0] == "stop" else deed[2]
        return new, fired, clashes, tuple(sorted(words))

    def right(self, signal):
        return signal[0] == "card" and (signal[3], signal[1], signal[2]) in self.text[1][4]

    def account(self, standing, signal):
        state = self.opened(standing)
        if self.void(state, signal):
            return (standing, [], (), [], False)
        own, told = self.itself(state, signal)
        state = own
        met, rounds, words, clashes = [], [], (), []
        while told:
            if (state, told) in met:
                return (self.closed(own), rounds, (), clashes, True)
            if len(rounds) == 1000:
                return "long"
            met.append((state, told))
            new, fired, met_clashes, said = self.round(state, told, self.right(signal))
            rounds.append((told, fired))
            words += said
            clashes += [(len(rounds),) + clash for clash in met_clashes]
            told = self.becoming(state, new)
            state = new
        return (self.closed(state), rounds, words, clashes, False)

    def walk(self, world, start, most=4000):
        """The standings and all nexts and accounts of a machine, by [31]."""
        signals = [signal for signal in rules.signals(self.text) if in_world(signal, world)]
        met, parents, rows = [start], [None], []
        for at in itertools.count():
            if at == len(met):
                return signals, met, parents, rows
            row = []
            for signal in signals:
                stuck = sum(how is not None for how in met[at][3])
                if signal[0] == "stuck" and stuck >= world[4]:
                    account = (met[at], [], (), [], False)
                else:
                    account = self.account(met[at], signal)
                if account[0] not in met:
                    if len(met) == most:
                        return None
                    met.append(account[0])
                    parents.append((at, signal))
                row.append((met.index(account[0]), account))
            rows.append(row)


def in_world(signal, world):
    places = {"smoke": 1, "button": 2, "stuck": 3, "mended": 3}
    return signal[0] not in places or signal[1] in world[places[signal[0]]]


def random_condition(rand, names, timers, counters, deep):
    word = rand.choice(["always"] * 6 + ["is", "is", "right", "least", "running", "not", "both", "either"])
    if word == "least" and counters:
        name, cap = rand.choice(counters)
        return ("least", name, rand.randint(1, cap))
    if word == "running" and timers:
        return ("running", rand.choice(timers)[0])
    if word == "right":
        return ("right",)
    if deep > 1 and word == "not":
        return ("not", random_condition(rand, names, timers, counters, deep - 1))
    if deep > 1 and word in ("both", "either"):
        return (word, random_condition(rand, names, timers, counters, deep - 1),
                random_condition(rand, names, timers, counters, deep - 1))
    if word == "is":
        name = rand.choice(list(names))
        return ("is", name, rand.choice(names[name]))
    return ("always",)


def random_when(rand, building, names, timers):
    doors = [door[0] for door in building[2]] + ["any"]
    word = rand.choice(["card", "pass", "smoke", "button", "stuck", "mended", "tick", "ran"] + ["becomes"] * 6)
    if word == "card":
        return (word, rand.choice(doors), rand.choice([0, 1, "any"]), rand.choice(list(building[3]) + ["any"]))
    if word == "pass":
        return (word, rand.choice(doors), rand.choice([0, 1, "any"]))
    if word == "smoke":
        return (word, rand.choice(list(building[1][1:]) + ["any"]), rand.choice(["yes", "no", "any"]))
    if word == "button":
        return (word, rand.randint(0, 2))
    if word in ("stuck", "mended"):
        return (word, rand.choice(doors))
    if word == "becomes":
        name = rand.choice(list(names)[-2:] if rand.random() < 0.7 else list(names))
        return (word, name, rand.choice(list(names[name]) + ["any"]))
    return (word, rand.choice(timers)[0]) if word == "ran" and timers else ("tick",)


def random_deeds(rand, names, timers, counters):
    deeds = {}
    for _ in range(rand.randint(0, 3)):
        word = rand.choice(["let", "let", "let", "let", "start", "stop", "more", "less", "say"])
        if word == "let":
            free = [name for name in names if not name.startswith("smoke:")]
            name = rand.choice(free[-2:] if rand.random() < 0.6 else free)
            deeds[("v", name)] = (word, name, rand.choice(names[name]))
        elif word in ("start", "stop") and timers:
            name, most = rand.choice(timers)
            deeds[("t", name)] = (word, name, rand.randint(1, most)) if word == "start" else (word, name)
        elif word in ("more", "less") and counters:
            name = rand.choice(counters)[0]
            deeds[("c", name)] = (word, name)
        elif word == "say":
            said = rand.randint(0, 3)
            deeds[("s", said)] = (word, said)
    return tuple(deeds.values())


def random_building(rand, areas=3, doors=2, kinds=2):
    names = ["out", "hall", "lab", "attic", "cave", "den"][:areas]
    rows = []
    for at in range(doors):
        one, other = rand.sample(names, 2)
        rows.append(("abcdef"[at], one, other, rand.choice(["leaf", "gate"])))
    kinds = ("guest", "staff", "chief")[:kinds]
    rights = tuple((kind, row[0], side) for kind in kinds for row in rows for side in (0, 1) if rand.random() < 0.6)
    return ("building", tuple(names), tuple(rows), kinds, rights)


def random_text(rand, building=None, many=16, deep=3):
    building = building or random_building(rand)
    own = tuple((name, ("lo", "mid", "hi", "top")[:rand.randint(2, 3)]) for name in ("x", "y")[:rand.randint(0, 2)])
    timers = tuple((name, rand.randint(1, 3)) for name in ("t", "u")[:rand.randint(0, 2)])
    counters = tuple((name, rand.randint(1, 2)) for name in ("k",)[:rand.randint(0, 1)])
    names = {door[0]: ("shut", "free") for door in building[2]}
    names.update({"smoke:" + area: ("no", "yes") for area in building[1][1:]})
    names.update(dict(own))
    text_rules = tuple((random_when(rand, building, names, timers),
                        random_condition(rand, names, timers, counters, deep),
                        random_deeds(rand, names, timers, counters)) for _ in range(rand.randint(many // 2, many)))
    return ("text", building, own, timers, counters, text_rules)


def random_world(rand, text):
    smokes = tuple(area for area in text[1][1][1:] if rand.random() < 0.4)
    doors = tuple(door[0] for door in text[1][2] if rand.random() < 0.4)
    buttons = tuple(button for button in range(3) if rand.random() < 0.5)
    return ("world", smokes, buttons, doors, rand.randint(0, len(doors)))


def random_standing(rand, text):
    plain = Plain(text)
    return (tuple(rand.choice(worths) for worths in plain.names.values()),
            tuple(rand.choice([None] + list(range(1, most + 1))) for most in plain.timers.values()),
            tuple(rand.randint(0, cap) for cap in plain.counters.values()),
            tuple(rand.choice([None, None, "shut", "free"]) for _ in plain.doors))


def deep_value():
    value = []
    for _ in range(38):
        value = [value]
    return value


def any_values():
    """Values of all sorts: hardly anything here is what some parameter of the package expects."""
    machine = machines.Machine(PLAIN, ("world", (), (), (), 0))
    table = tables.Table(SMALL, ("web", (0,), ((),)), ((),), 1)
    desk = bench.Bench(PLAIN, [1])
    warm = comfort.Comfort(("air", (("room", 0, 1, 0),), 1, (), (), (0, 0, 0, 0)), ((),), ((),))
    return [None, True, False, -1, 10 ** 99, "", "any", "Front", "x" * 20000, "no such", [], (), {}, [[]], ([],), {"a": []},
            [None], (None,), (True,), [True], ("tick", 1), ("text",), ["any"], ("any",), deep_value(), (deep_value(),),
            ("card", [], {}, ()), ("becomes", {}, []), ("is", [], []), ("never", (), [[]]), ("shut", ["free"]),
            ("building", (), (), (), ()), ("text", None, (), (), (), ()), ("world", (), (), (), True), machine, table,
            desk, warm, (desk,), [[warm]], ("never", desk, ()),
            [machine], (table, table), ({},), [{}], errors.BadArea("no"), "Seven", ({"a": ()}, 2), (1, [2]),
            "\u00e9", "a b", [10 ** 99], (10 ** 99,), {1: 2}, {(): ()}]


def nodes(value, path=()):
    """All places within nested tuples and lists."""
    yield path, value
    if isinstance(value, (tuple, list)):
        for at, item in enumerate(value):
            yield from nodes(item, path + (at,))


def put(value, path, new):
    if not path:
        return new
    items = list(value)
    items[path[0]] = put(items[path[0]], path[1:], new)
    return type(value)(items)


def is_plain(value):
    """Whether a value is plain: nothing of a class of its own, at any depth."""
    if type(value) in (list, tuple):
        return all(is_plain(item) for item in value)
    if type(value) is dict:
        return all(is_plain(key) and is_plain(item) for key, item in value.items())
    return value is None or type(value) in (int, bool, str)


def lists_within(value):
    """All lists and dicts within a value."""
    if type(value) in (list, dict):
        yield value
    if type(value) is dict:
        for key, item in value.items():
            yield from lists_within(key)
            yield from lists_within(item)
    if type(value) in (list, tuple):
        for item in value:
            yield from lists_within(item)


def seeded(number):
    return random.Random(number)


DIGITS = "vwxyz"
WORTHS = ("a", "b", "c", "d")


def all_of(conditions):
    """A condition for several ones, nested as little as can be."""
    if len(conditions) == 1:
        return conditions[0]
    half = len(conditions) // 2
    return ("both", all_of(conditions[:half]), all_of(conditions[half:]))


def digits_of(number):
    return [WORTHS[number >> 2 * at & 3] for at in range(5)]


def counting(first, stop, back=None):
    """A text whose button 0 lets v be a value, at small numbers; then it counts, round by round, up to a number.

    There it stays, or goes back to another value of v.
    """
    end = all_of([("is", name, worth) for name, worth in zip(DIGITS, digits_of(stop))])
    made = [(("button", 0), ("is", "z", "a"), (("let", "v", first),))]
    for at, name in enumerate(DIGITS):
        for here, worth in enumerate(WORTHS):
            parts = [("is", lower, "d") for lower in DIGITS[:at]] + [("is", name, worth)]
            going = all_of(parts + [("not", end)]) if at == 0 else all_of(parts)
            made.append((("becomes", "v", "any"), going, (("let", name, WORTHS[(here + 1) % 4]),)))
    if back:
        made.append((("becomes", "v", "any"), end, (("let", "v", back),)))
    return ("text", SMALL, tuple((name, WORTHS) for name in DIGITS), (), (), tuple(made))


def counted(number):
    """The standing of a counting text at a number."""
    return (("shut", "no") + tuple(digits_of(number)), (), (), (None,))


def ring_of(many):
    """A text with just so many standings, through which ticks go round."""
    end = all_of([("is", name, worth) for name, worth in zip(DIGITS, digits_of(many - 1))])
    made = [(("tick",), end, tuple(("let", name, "a") for name in DIGITS[:4])), (("tick",), end, (("let", "z", "a"),))]
    for at, name in enumerate(DIGITS):
        for here, worth in enumerate(WORTHS):
            parts = [("is", lower, "d") for lower in DIGITS[:at]] + [("is", name, worth)]
            made.append((("tick",), all_of(parts), (("let", name, WORTHS[(here + 1) % 4]),)))
    return ("text", SMALL, tuple((name, WORTHS) for name in DIGITS), (), (), tuple(made))


BUTTONS = ("world", (), (0, 1, 2, 3, 4, 5), (), 0)


def four_thousand(more):
    """A text with just 4000 standings in the world BUTTONS, or with one more: 2 ** 5 values, 5 ** 3 ticks left."""
    shut = ("is", "door", "shut")
    made = [(when, shut, (("start", name, 4),)) for when, name in
            [(("card", "door", 0, "any"), "r"), (("card", "door", 1, "any"), "s"), (("button", 5), "t")]]
    for at, name in enumerate(DIGITS):
        made.append((("button", at), ("both", shut, ("is", name, "a")), (("let", name, "b"),)))
        made.append((("button", at), ("both", shut, ("is", name, "b")), (("let", name, "a"),)))
    if more:
        # From where all values are b, and all timers run, button 0 leads to a standing that nothing leaves.
        far = all_of([shut] + [("is", name, "b") for name in DIGITS] + [("running", name) for name in "rst"])
        made.append((("button", 0), far, (("let", "door", "free"), ("let", "v", "a"), ("let", "w", "a"), ("let", "x", "a"))))
        made.append((("button", 0), far, (("let", "y", "a"), ("let", "z", "a"), ("stop", "r"), ("stop", "s"))))
        made.append((("button", 0), far, (("stop", "t"),)))
    return ("text", SMALL, tuple((name, ("a", "b")) for name in DIGITS), (("r", 4), ("s", 4), ("t", 4)), (), tuple(made))
