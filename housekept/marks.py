"""Marks that walks of a web meet, and places where a meeting is still open."""
from housekept.buildings import check_door, kinds_of, rights_of
from housekept.errors import BadLabel, BadMark, BadTicks
from housekept.judging import check_question, numbers_where
from housekept.machines import check_machine
from housekept.shapes import are_indexes, are_unlike, is_between, is_one, is_tuple
from housekept.webs import check_web, is_label

TICK = ("tick",)
TICKS = 400


def steps_at(web, place):
    """The pairs (label, place) of the moves of a place."""
    return [(label, behind) for label, _, _, behind in web[2][place]]


def is_step(value):
    """Whether a value is a pair of a label and a whole."""
    return is_tuple(value, 2, 2) and is_label(value[0]) and type(value[1]) is int


def is_walk(web, value):
    """Whether a value is a begin of a web with moves, one behind the other, needs not being looked at."""
    check_web(web)
    if not is_tuple(value, 2, 2) or not is_one(value[0], web[1]) or type(value[1]) is not tuple:
        return False
    place = value[0]
    for step in value[1]:
        if not is_step(step) or step not in steps_at(web, place):
            return False
        place = step[1]
    return True


def places_from(web, starts):
    """All places to which moves lead from some, in the order in which they are met."""
    seen = {place: True for place in starts}
    order = list(seen)
    at = 0
    while at < len(order):
        moves = web[2][order[at]]
        for _, _, _, behind in moves:
            if behind not in seen:
                seen[behind] = True
                order.append(behind)
        at += 1
    return order


def comes(web):
    """The places to which walks lead, ascending."""
    check_web(web)
    return tuple(sorted(places_from(web, web[1])))


def are_labels(value):
    return type(value) is tuple and all([is_label(label) for label in value]) and are_unlike(value)


def is_mark_of(web, value):
    if not is_tuple(value, 2, 2) or type(value[0]) is not tuple:
        return False
    return are_indexes(value[0], len(web[2])) and are_labels(value[1])


def is_mark(web, value):
    check_web(web)
    return is_mark_of(web, value)


def check_marks(web, one, other):
    """The errors of a web and two marks of it."""
    check_web(web)
    for mark in (one, other):
        if not is_mark_of(web, mark):
            raise BadMark("this is no mark of the web")


def mark_of(machine, question, labels):
    """The mark of the standings at which a question holds, and of some labels."""
    check_machine(machine)
    check_question(machine.slots.scope, question)
    if not are_labels(labels):
        raise BadLabel("these are no unlike labels")
    return (tuple(numbers_where(machine, question)), labels)


def free_marks(machine, door):
    """The mark of a door that stands free, and that of one who asks for it to be: it is shut, a right is shown."""
    check_machine(machine)
    building = machine.text[1]
    check_door(building, door)
    rights = rights_of(building)
    labels = [("show", kind, door, side) for side in (0, 1) for kind in kinds_of(building)
              if (kind, door, side) in rights]
    free = numbers_where(machine, ("stands", door, "free"))
    shut = numbers_where(machine, ("stands", door, "shut"))
    return ((tuple(free), ()), (tuple(shut), tuple(labels)))


class Meetings:
    """How meetings of one mark stay open until another one is met: by moves that do not meet it."""

    def __init__(self, web, one, other):
        self.web = web
        self.answers = {place: True for place in other[0]}
        self.silences = {label: True for label in other[1]}
        self.starts = self.starting(one)
        # For each place the next ones, by moves that are no ticks, and by ticks.
        self.quiet = {}
        self.ticking = {}

    def starting(self, one):
        """The places where a walk can end with a meeting that has just begun, and is not answered at once."""
        places = {place: True for place in one[0]}
        labels = {label: True for label in one[1]}
        found = {}
        for place in places_from(self.web, self.web[1]):
            if place in places and place not in self.answers:
                found[place] = True
            for label, _, _, behind in self.web[2][place]:
                if label in labels and self.is_open(label, behind):
                    found[behind] = True
        return sorted(found)

    def is_open(self, label, behind):
        """Whether a move meets nothing that answers."""
        return label not in self.silences and behind not in self.answers

    def open_nexts(self, place):
        """The next places of an open one: by other moves, and by ticks."""
        if place not in self.quiet:
            quiet, ticking = {}, {}
            for label, _, _, behind in self.web[2][place]:
                if self.is_open(label, behind):
                    lot = ticking if label == TICK else quiet
                    lot[behind] = True
            self.quiet[place] = list(quiet)
            self.ticking[place] = list(ticking)
        return self.quiet[place], self.ticking[place]

    def spread(self, starts):
        """All places to which moves that are no ticks lead from some, ascending."""
        seen = {place: True for place in starts}
        order = list(seen)
        at = 0
        while at < len(order):
            quiet, _ = self.open_nexts(order[at])
            for behind in quiet:
                if behind not in seen:
                    seen[behind] = True
                    order.append(behind)
            at += 1
        return tuple(sorted(order))

    def after_tick(self, places):
        """The places that are open one tick later."""
        found = {}
        for place in places:
            _, ticking = self.open_nexts(place)
            for behind in ticking:
                found[behind] = True
        return self.spread(found)

    def open_at(self, t):
        """The places that are open at t: once the same ones come again, all do."""
        rows = [self.spread(self.starts)]
        met = {rows[0]: 0}
        while len(rows) <= t:
            row = self.after_tick(rows[-1])
            if row in met:
                turn = len(rows) - met[row]
                return rows[met[row] + (t - met[row]) % turn]
            met[row] = len(rows)
            rows.append(row)
        return rows[t]


def open_places(web, one, other, t):
    """The places where a walk can end with an open meeting whose wait is t."""
    check_marks(web, one, other)
    if not is_between(t, 0, TICKS):
        raise BadTicks("this is no whole from 0 to 400")
    return Meetings(web, one, other).open_at(t)


def starts(web, one, other):
    """The places where a walk can end with an open meeting that begins with its last place or move."""
    check_marks(web, one, other)
    return tuple(Meetings(web, one, other).starts)
