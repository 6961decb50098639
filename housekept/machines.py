"""Machines: all standings to which the signals of a world lead, and how each signal is answered there."""
from housekept.errors import BadMachine, BadNumber, BadRow, BadSignal, BadStanding, BadWorld, TooLong, TooMany
from housekept.graphs import labels_to
from housekept.meaning import ROUNDS
from housekept.rounds import Program, behind_deeds
from housekept.rules import begin, check_text, is_signal_of, is_standing_of, signals_of
from housekept.shapes import are_indexes, is_among, is_ascending, is_between, is_row, is_tuple

STANDINGS = 4000
KEPT = 16


def is_part(value, names):
    """Whether a value is a tuple of some of the names, in their order."""
    if type(value) is not tuple or not all([is_among(item, names) for item in value]):
        return False
    return is_ascending([names.index(item) for item in value])


def is_world_of(scope, value):
    if not is_tuple(value, 5, 5) or value[0] != "world":
        return False
    if not is_part(value[1], scope.inner) or not is_part(value[3], scope.doors):
        return False
    if type(value[2]) is not tuple or not are_indexes(value[2], 6):
        return False
    return is_between(value[4], 0, len(value[3]))


def is_in_world(signal, world):
    """Whether a signal of the text is one of the world."""
    if signal[0] == "smoke":
        return signal[1] in world[1]
    if signal[0] == "button":
        return signal[1] in world[2]
    if signal[0] == "stuck" or signal[0] == "mended":
        return signal[1] in world[3]
    return True


def world_signals(scope, world):
    return [signal for signal in signals_of(scope) if is_in_world(signal, world)]


def check_world(scope, world):
    if not is_world_of(scope, world):
        raise BadWorld("this is no world of the text")


def is_world(text, value):
    return is_world_of(check_text(text), value)


def whole_world(text):
    """The world with everything in it."""
    scope = check_text(text)
    return ("world", scope.inner, (0, 1, 2, 3, 4, 5), scope.doors, len(scope.doors))


def signals_in(text, world):
    """The signals of a world, in order."""
    scope = check_text(text)
    check_world(scope, world)
    return world_signals(scope, world)


class Tail:
    """What the rounds from one beginning on do; end is None if a beginning comes again."""

    def __init__(self, rounds, end, words, marks):
        self.rounds = rounds
        self.end = end
        self.words = words
        self.marks = marks


class Tails:
    """The tails of a text's beginnings, each worked out once: many signals lead to the same ones.

    Marks are a whole with a bit for each rule that fires and for each pair of rules that clash.
    """

    def __init__(self, program):
        self.program = program
        self.many = len(program.rules)
        self.known = {}
        self.marks = {}
        self.heard = {}

    def marks_of(self, fired):
        """The bits of a lot of rules that fire: rules first, then pairs (done, not done)."""
        if fired not in self.marks:
            marks = 0
            for rule in fired:
                marks = marks | (1 << rule)
            for done, left, _ in self.program.effect(fired).clashes:
                marks = marks | (1 << (self.many + done * self.many + left))
            self.marks[fired] = marks
        return self.marks[fired]

    def candidates(self, flat, changed):
        """The rules that hear of the variables in some slots, with their tests."""
        key = tuple([(slot, flat[slot]) for slot in changed])
        if key not in self.heard:
            names = self.program.slots.names
            self.heard[key] = self.program.candidates([("becomes", names[slot], worth) for slot, worth in key])
        return self.heard[key]

    def stepped(self, flat, candidates, right):
        """The flat standing behind one round, the slots that have changed, and which rules fire."""
        fired = tuple([rule for rule, test in candidates if test(flat, right)])
        if not fired:
            return flat, (), fired
        deeds = self.program.effect(fired).deeds
        now = behind_deeds(flat, deeds)
        return now, tuple([slot for slot, word, _ in deeds if word == "let" and flat[slot] != now[slot]]), fired

    def tail(self, flat, candidates, right):
        """The tail from round 1 of a signal on, TooLong if it has more rounds than are let."""
        now, changed, fired = self.stepped(flat, candidates, right)
        if not fired:
            return Tail(1, now, (), 0)
        words = self.program.effect(fired).words
        marks = self.marks_of(fired)
        if not changed:
            return Tail(1, now, words, marks)
        rest = self.later(now, changed, right)
        if rest.rounds >= ROUNDS:
            raise TooLong(ROUNDS)
        # Round 1 hears the signal, so its beginning does not come again.
        return self.ahead_of(rest, words, marks)

    def ahead_of(self, rest, words, marks):
        """The tail of a round and what follows it."""
        told = () if rest.end is None else (words + rest.words if words else rest.words)
        return Tail(rest.rounds + 1, rest.end, told, marks | rest.marks)

    def later(self, flat, changed, right):
        """The tail from a beginning at which only variables are told; changed is not empty."""
        path, places = [], {}
        key = (flat, changed, right)
        rest = None
        while rest is None:
            if not key[1]:
                rest = Tail(0, key[0], (), 0)
            elif key in self.known:
                rest = self.known[key]
            elif key in places:
                rest = self.ringed(path, places[key])
                path = path[:places[key]]
            elif len(path) == ROUNDS - 1:
                raise TooLong(ROUNDS)
            else:
                places[key] = len(path)
                now, slots, fired = self.stepped(key[0], self.candidates(key[0], key[1]), right)
                path.append((key, fired))
                key = (now, slots, key[2])
        for at in range(len(path) - 1, -1, -1):
            beginning, fired = path[at]
            rest = self.ahead_of(rest, self.program.effect(fired).words, self.marks_of(fired))
            # Of a long path some are kept: another one that comes into it finds one of them soon.
            if at % KEPT == 0:
                self.known[beginning] = rest
        return rest

    def ringed(self, path, first):
        """The tail of all beginnings of a ring: that of path from a place on.

        All are kept: so no other path counts one of them as its own, and again as one of the ring.
        """
        marks = 0
        for _, fired in path[first:]:
            marks = marks | self.marks_of(fired)
        rest = Tail(len(path) - first, None, (), marks)
        for beginning, _ in path[first:]:
            self.known[beginning] = rest
        return rest


class Walk:
    """The walk by which the standings of a machine are met."""

    def __init__(self, text, world, starts, most):
        self.program = Program(text)
        self.tails = Tails(self.program)
        self.faults = world[4]
        self.most = most
        self.signals = world_signals(self.program.slots.scope, world)
        self.plans = self.plans_of()
        self.flats = []
        self.numbers = {}
        self.parents = []
        for start in starts:
            self.numbered(self.program.slots.flat(start), None)
        self.nexts = []
        self.says = []
        self.sayings = [((), False)]
        self.said_numbers = {((), False): 0}
        self.seen = 0
        self.firsts = []
        self.endless = None

    def plans_of(self):
        """For each signal whether it does something by itself, who hears it, and its group.

        Where signals of one group change nothing by themselves, they lead to the same. What a signal
        tells beside itself it tells of a change.
        """
        program = self.program
        groups = {}
        plans = []
        for signal in self.signals:
            heard = program.candidates([signal])
            right = program.is_right(signal) and program.uses_right
            key = (tuple([rule for rule, _ in heard]), right)
            if key not in groups:
                groups[key] = len(groups)
            own = signal[0] != "card" and signal[0] != "button"
            plans.append((signal, own, heard, right, groups[key]))
        return plans

    def walk(self):
        at = 0
        while at < len(self.flats):
            self.explore(at)
            at += 1

    def explore(self, at):
        """Work off all signals at one standing."""
        flat = self.flats[at]
        program = self.program
        met = {}
        nexts, says = [], []
        full = len(program.slots.doors) - flat[program.slots.first_stuck:].count(None) >= self.faults
        for number, (signal, own, heard, right, group) in enumerate(self.plans):
            begun = program.alone(flat, signal) if own else (flat, [signal])
            if begun is None or (full and signal[0] == "stuck"):
                found = (at, 0)
            elif begun[0] != flat:
                found = self.entered(at, number, begun[0], program.candidates(begun[1]), right)
            elif group in met:
                found = met[group]
            else:
                found = self.entered(at, number, flat, heard, right)
                met[group] = found
            nexts.append(found[0])
            says.append(found[1])
        self.nexts.append(nexts)
        self.says.append(says)

    def entered(self, at, number, flat, candidates, right):
        """The number of the standing behind a signal, and the number of what is said."""
        tail = self.tails.tail(flat, candidates, right)
        if tail.marks & ~self.seen:
            self.firsts.append((tail.marks & ~self.seen, at, number))
            self.seen = self.seen | tail.marks
        if tail.end is None and self.endless is None:
            self.endless = (at, number)
        told = (tail.words, tail.end is None)
        if told not in self.said_numbers:
            self.said_numbers[told] = len(self.sayings)
            self.sayings.append(told)
        behind = self.numbered(flat if tail.end is None else tail.end, (at, number))
        return (behind, self.said_numbers[told])

    def numbered(self, flat, parent):
        if flat not in self.numbers:
            if len(self.flats) == self.most:
                raise TooMany(self.most)
            self.numbers[flat] = len(self.flats)
            self.flats.append(flat)
            self.parents.append(parent)
        return self.numbers[flat]

    def door_rows(self):
        """For each standing how each door stands."""
        return [self.program.slots.stands(flat) for flat in self.flats]


class Machine:
    """A text in a world: its standings, numbered as they are met, and its answers."""

    def __init__(self, text, world, *, start=None):
        scope = check_text(text)
        check_world(scope, world)
        if start is not None and not is_standing_of(scope, start):
            raise BadStanding("this is no standing of the text")
        walk = Walk(text, world, [begin(text) if start is None else start], STANDINGS)
        walk.walk()
        self.source = text
        self.world = world
        self.slots = walk.program.slots
        self.signals = walk.signals
        self.places = {signal: at for at, signal in enumerate(walk.signals)}
        self.flats = walk.flats
        self.numbers = walk.numbers
        self.parents = walk.parents
        self.nexts = walk.nexts
        self.says = walk.says
        self.sayings = walk.sayings
        self.doors = walk.door_rows()
        self.firsts = walk.firsts
        self.first_endless = walk.endless

    @property
    def text(self):
        """The text as it was handed in."""
        return self.source

    def __len__(self):
        return len(self.flats)

    def standing(self, at):
        """The standing of a number."""
        check_number(self, at)
        return self.slots.deep(self.flats[at])

    def number(self, value):
        """The number of a standing, None for any other value."""
        if not is_standing_of(self.slots.scope, value):
            return None
        return self.numbers.get(self.slots.flat(value), None)

    def after(self, at, signal):
        """The number of the standing behind a signal, and the answer."""
        check_number(self, at)
        check_world_signal(self, signal)
        return self.stepped(at, self.places[signal])

    def stepped(self, at, place):
        """As after, of the signal with a place among the world's."""
        behind = self.nexts[at][place]
        words, is_endless = self.sayings[self.says[at][place]]
        return (behind, (self.doors[behind], words, is_endless))

    def row_to(self, at):
        """The least row to a standing: the walk meets each by its least row."""
        return [self.signals[place] for place in labels_to(self.parents, at)]


def check_machine(machine):
    if not isinstance(machine, Machine):
        raise BadMachine("this is no machine")


def check_number(machine, at):
    if not is_between(at, 0, len(machine) - 1):
        raise BadNumber("this is no number of a standing")


def is_world_signal(machine, value):
    return is_signal_of(machine.slots.scope, value) and value in machine.places


def check_world_signal(machine, signal):
    if not is_world_signal(machine, signal):
        raise BadSignal("this is no signal of the world")


def answers(machine, row):
    """The answers along a row from the first standing."""
    check_machine(machine)
    if not is_row(row) or not all([is_world_signal(machine, signal) for signal in row]):
        raise BadRow("this is no row of the world")
    at = 0
    found = []
    for signal in row:
        at, answer = machine.stepped(at, machine.places[signal])
        found.append(answer)
    return found


def way(machine, at):
    """The least row that leads to a standing."""
    check_machine(machine)
    check_number(machine, at)
    return machine.row_to(at)
