"""Single rounds: what a signal does by itself, which rules fire, what their deeds do together."""
from housekept.buildings import doors_of, rights_of
from housekept.errors import BadRight, BadTold
from housekept.rules import check_signal, check_standing, check_text, is_told, scope_of, thing_of
from housekept.shapes import are_unlike, is_row


def fits(when, told):
    """Whether a when fits a told thing."""
    if when[0] != told[0]:
        return False
    return all([part == "any" or part == thing for part, thing in zip(when[1:], told[1:])])


def has_right(condition):
    """Whether ("right",) stands in a condition."""
    if condition[0] in ("both", "either", "not"):
        return any([has_right(part) for part in condition[1:]])
    return condition[0] == "right"


class Slots:
    """Where things stand in a flat standing: values, timers, counters, stuck entries, one behind another."""

    def __init__(self, text):
        scope = scope_of(text)
        self.scope = scope
        self.names = list(scope.worths)
        self.timers = list(scope.timers)
        self.counters = list(scope.counters)
        self.doors = scope.doors
        things = [("variable", name) for name in self.names]
        things.extend([("timer", name) for name in self.timers])
        things.extend([("counter", name) for name in self.counters])
        things.extend([("stuck", name) for name in self.doors])
        self.things = things
        self.slots = {thing: at for at, thing in enumerate(things)}
        self.many = len(self.names)
        self.first_counter = self.many + len(self.timers)
        self.first_stuck = self.first_counter + len(self.counters)

    def flat(self, standing):
        return standing[0] + standing[1] + standing[2] + standing[3]

    def deep(self, flat):
        """The standing of a flat one."""
        one, two, three = self.many, self.first_counter, self.first_stuck
        return (flat[:one], flat[one:two], flat[two:three], flat[three:])

    def stands(self, flat):
        """How each door stands: doors are the first variables."""
        return tuple([stuck or worth for stuck, worth in zip(flat[self.first_stuck:], flat)])

    def changed(self, flat, behind):
        """The slots of the variables that have another value behind."""
        return [slot for slot in range(self.many) if flat[slot] != behind[slot]]


def whether_both(one, other):
    return lambda flat, right: one(flat, right) and other(flat, right)


def whether_either(one, other):
    return lambda flat, right: one(flat, right) or other(flat, right)


def whether_not(one):
    return lambda flat, right: not one(flat, right)


def whether_is(slot, worth):
    return lambda flat, right: flat[slot] == worth


def whether_least(slot, many):
    return lambda flat, right: flat[slot] >= many


def whether_running(slot):
    return lambda flat, right: flat[slot] is not None


def whether_stands(stuck, slot, how):
    return lambda flat, right: (flat[stuck] or flat[slot]) == how


def whether_right():
    return lambda flat, right: right


def whether_always():
    return lambda flat, right: True


def test_of(slots, condition):
    """A condition, or a question, as a function of a flat standing and of whether ("right",) holds."""
    word = condition[0]
    if word == "both":
        return whether_both(test_of(slots, condition[1]), test_of(slots, condition[2]))
    if word == "either":
        return whether_either(test_of(slots, condition[1]), test_of(slots, condition[2]))
    if word == "not":
        return whether_not(test_of(slots, condition[1]))
    if word == "is":
        return whether_is(slots.slots[("variable", condition[1])], condition[2])
    if word == "least":
        return whether_least(slots.slots[("counter", condition[1])], condition[2])
    if word == "running":
        return whether_running(slots.slots[("timer", condition[1])])
    if word == "stands":
        door = slots.slots[("variable", condition[1])]
        return whether_stands(slots.first_stuck + door, door, condition[2])
    return whether_right() if word == "right" else whether_always()


class Effect:
    """What a lot of rules that fire in one round does together."""

    def __init__(self, deeds, clashes, words):
        self.deeds = deeds
        self.clashes = clashes
        self.words = words


def behind_deeds(flat, deeds):
    """The flat standing behind deeds, which are triples (slot, word, argument) of unlike slots."""
    cells = list(flat)
    for slot, word, worth in deeds:
        if word == "more":
            cells[slot] = min(worth, cells[slot] + 1)
        elif word == "less":
            cells[slot] = max(0, cells[slot] - 1)
        else:
            cells[slot] = worth
    return tuple(cells)


class Program:
    """A text made ready to run: what it works out of its rules it keeps."""

    def __init__(self, text):
        self.slots = Slots(text)
        self.rules = text[5]
        self.tests = [test_of(self.slots, rule[1]) for rule in self.rules]
        self.uses_right = any([has_right(rule[1]) for rule in self.rules])
        self.rights = {(kind, door, side): True for kind, door, side in rights_of(text[1])}
        self.gates = {door[0]: door[3] == "gate" for door in doors_of(text[1])}
        self.heard = {}
        self.effects = {}

    def is_right(self, signal):
        """Whether ("right",) holds in the rounds of a signal."""
        return signal[0] == "card" and (signal[3], signal[1], signal[2]) in self.rights

    def hearing(self, thing):
        """The rules whose when fits a told thing."""
        if thing not in self.heard:
            self.heard[thing] = [at for at in range(len(self.rules)) if fits(self.rules[at][0], thing)]
        return self.heard[thing]

    def candidates(self, told):
        """The rules whose when fits one of some told things, ascending, each with its condition's test."""
        rules = self.hearing(told[0])
        if len(told) > 1:
            rules = sorted(set([rule for thing in told for rule in self.hearing(thing)]))
        return [(rule, self.tests[rule]) for rule in rules]

    def firing(self, flat, told, right):
        if not told:
            return ()
        return tuple([rule for rule, test in self.candidates(told) if test(flat, right)])

    def cell_deed(self, deed):
        """A deed as the triple (slot, word, argument): the cap for more."""
        thing = thing_of(deed)
        slot = self.slots.slots[thing]
        if deed[0] == "more":
            return (slot, "more", self.slots.scope.counters[deed[1]])
        return (slot, deed[0], deed[2] if len(deed) == 3 else None)

    def effect(self, fired):
        """The effect of the rules that fire: of unlike deeds on one thing that of the least rule is done."""
        if fired not in self.effects:
            done = {}
            clashes = []
            words = {}
            for rule in fired:
                for deed in self.rules[rule][2]:
                    thing = thing_of(deed)
                    if thing is None:
                        words[deed[1]] = True
                    elif thing not in done:
                        done[thing] = (rule, deed)
                    elif done[thing][1] != deed:
                        clashes.append((done[thing][0], rule, thing))
            deeds = sorted([self.cell_deed(done[thing][1]) for thing in done], key=lambda deed: deed[0])
            self.effects[fired] = Effect(deeds, clashes, tuple(sorted(words)))
        return self.effects[fired]

    def alone(self, flat, signal):
        """None for a void signal, otherwise the flat standing by what it is by itself, and what is told."""
        word = signal[0]
        slots = self.slots
        if word == "tick":
            return self.ticked(flat, signal)
        if word == "smoke":
            slot = slots.slots[("variable", "smoke:" + signal[1])]
            return self.alone_let(flat, signal, slot, signal[2])
        if word == "card" or word == "button":
            return (flat, [signal])
        door = slots.doors.index(signal[1])
        entry = slots.first_stuck + door
        if word == "pass":
            if (flat[entry] or flat[door]) == "shut":
                return None
            return self.alone_let(flat, signal, door, "shut") if self.gates[signal[1]] else (flat, [signal])
        if (word == "stuck") == (flat[entry] is not None):
            return None
        how = flat[door] if word == "stuck" else None
        return (flat[:entry] + (how,) + flat[entry + 1:], [signal])

    def alone_let(self, flat, signal, slot, worth):
        """A signal that gives a variable a value by itself."""
        if flat[slot] == worth:
            return (flat, [signal])
        return (flat[:slot] + (worth,) + flat[slot + 1:], [signal, ("becomes", self.slots.names[slot], worth)])

    def ticked(self, flat, signal):
        told = [signal]
        cells = list(flat)
        for at in range(len(self.slots.timers)):
            slot = self.slots.many + at
            if cells[slot] == 1:
                cells[slot] = None
                told.append(("ran", self.slots.timers[at]))
            elif cells[slot] is not None:
                cells[slot] -= 1
        return (tuple(cells), told)

    def changes(self, flat, behind):
        """What is told by going from one flat standing to another one."""
        return [("becomes", self.slots.names[slot], behind[slot]) for slot in self.slots.changed(flat, behind)]


def by_itself(text, standing, signal):
    """The standing by what a signal is by itself, and what is told to round 1."""
    scope = check_text(text)
    check_standing(scope, standing)
    check_signal(scope, signal)
    program = Program(text)
    begun = program.alone(program.slots.flat(standing), signal)
    if begun is None:
        return (standing, [])
    return (program.slots.deep(begun[0]), begun[1])


def check_told(scope, told):
    if not is_row(told) or not all([is_told(scope, thing) for thing in told]) or not are_unlike(told):
        raise BadTold("this is no list of unlike told things of the text")


def once(text, standing, told, right):
    """One round: the standing behind it, the rules that fire, and the clashes."""
    scope = check_text(text)
    check_standing(scope, standing)
    check_told(scope, told)
    if right is not True and right is not False:
        raise BadRight("this is neither True nor False")
    program = Program(text)
    flat = program.slots.flat(standing)
    fired = program.firing(flat, told, right)
    effect = program.effect(fired)
    return (program.slots.deep(behind_deeds(flat, effect.deeds)), fired, list(effect.clashes))


def told_next(text, one, other):
    """What is told by going from one standing to another one."""
    scope = check_text(text)
    check_standing(scope, one)
    check_standing(scope, other)
    program = Program(text)
    return program.changes(program.slots.flat(one), program.slots.flat(other))
