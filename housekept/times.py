"""Times: within how many ticks meetings are answered, and what shows it."""
from housekept.errors import BadClock, BadTicks
from housekept.graphs import labels_to, longest_ticks, tick_ring
from housekept.marks import Meetings, TICK, TICKS, check_marks, is_step, is_walk, steps_at
from housekept.shapes import is_between, is_from, is_tuple


class Openness:
    """The places at which meetings are open, and the moves by which they stay so: a graph over these places."""

    def __init__(self, web, one, other):
        meetings = Meetings(web, one, other)
        self.starts = meetings.starts
        self.places = list(self.starts)
        self.numbers = {place: at for at, place in enumerate(self.places)}
        self.graph = []
        while len(self.graph) < len(self.places):
            self.graph.append(self.edges(meetings, self.places[len(self.graph)]))
        self.longest = longest_ticks(self.graph)

    def edges(self, meetings, place):
        found = {}
        for step in steps_at(meetings.web, place):
            label, behind = step
            if meetings.is_open(label, behind):
                if behind not in self.numbers:
                    self.numbers[behind] = len(self.places)
                    self.places.append(behind)
                found.setdefault((self.numbers[behind], 1 if label == TICK else 0), step)
        return [(at, tick, found[(at, tick)]) for at, tick in found]

    def within(self):
        waits = [self.longest[self.numbers[start]] for start in self.starts]
        if None in waits:
            return None
        return max(waits) + 1 if waits else 0

    def ring_from(self, start):
        """The steps from a place to a ring with a tick, and along it; None if there is none."""
        at = self.numbers[start]
        return tick_ring(self.graph, at) if self.longest[at] is None else None


def within(web, one, other):
    """The least t at which no place is open, None if there is none."""
    check_marks(web, one, other)
    return Openness(web, one, other).within()


def is_clock_of(web, one, other, value):
    if type(value) is not dict:
        return False
    many = len(web[2])
    if not all([is_between(place, 0, many - 1) and is_from(value[place], 0) for place in value]):
        return False
    meetings = Meetings(web, one, other)
    if not all([place in value for place in meetings.starts]):
        return False
    for place in value:
        for label, behind in steps_at(web, place):
            if meetings.is_open(label, behind):
                left = value[place] - 1 if label == TICK else value[place]
                if behind not in value or value[behind] > left:
                    return False
    return True


def is_clock(web, one, other, value):
    """Whether a value is a dict of wholes that do not grow along open moves, and lessen by ticks."""
    check_marks(web, one, other)
    return is_clock_of(web, one, other, value)


def bound(web, one, other, value):
    """Within how many ticks a clock shows that meetings are answered."""
    check_marks(web, one, other)
    if not is_clock_of(web, one, other, value):
        raise BadClock("this is no clock")
    found = [value[place] for place in Meetings(web, one, other).starts]
    return max(found) + 1 if found else 0


def clock(web, one, other):
    """For each place that can be open the greatest time for which it stays so, None if there is none."""
    check_marks(web, one, other)
    openness = Openness(web, one, other)
    if openness.within() is None:
        return None
    return {place: openness.longest[openness.numbers[place]] for place in sorted(openness.places)}


class Comings:
    """The places that come, each with a shortest walk."""

    def __init__(self, web):
        self.web = web
        self.parents = {begin: None for begin in web[1]}
        self.order = list(self.parents)
        at = 0
        while at < len(self.order):
            here = self.order[at]
            for step in steps_at(web, here):
                if step[1] not in self.parents:
                    self.parents[step[1]] = (here, step)
                    self.order.append(step[1])
            at += 1

    def steps_to(self, place):
        return labels_to(self.parents, place)

    def begin_of(self, place):
        while self.parents[place] is not None:
            place = self.parents[place][0]
        return place


def opening(web, one, other, start):
    """A walk that ends at a place with an open meeting that begins with its last place or move, and the moment."""
    comings = Comings(web)
    if start in one[0]:
        steps = comings.steps_to(start)
        return (comings.begin_of(start), steps, 2 * len(steps))
    for place in comings.order:
        for label, behind in steps_at(web, place):
            if behind == start and label in one[1] and label not in other[1]:
                steps = comings.steps_to(place) + [(label, behind)]
                return (comings.begin_of(place), steps, 2 * len(steps) - 1)
    return None


def ring(web, one, other):
    """An open meeting and a ring of moves along which it stays open for ever, None if there is none."""
    check_marks(web, one, other)
    openness = Openness(web, one, other)
    for start in openness.starts:
        found = openness.ring_from(start)
        if found is not None:
            begin, steps, moment = opening(web, one, other, start)
            return ((begin, tuple(steps + found[0])), moment, tuple(found[1]))
    return None


class Moments:
    """The moments of a walk: which of them meet one mark, and where each is answered by the other one."""

    def __init__(self, walk, one, other):
        begin, steps = walk
        places = [{place: True for place in mark[0]} for mark in (one, other)]
        labels = [{label: True for label in mark[1]} for mark in (one, other)]
        self.ones = [begin in places[0]]
        others = [begin in places[1]]
        self.ticks = [0]
        for label, place in steps:
            self.ones.extend([label in labels[0], place in places[0]])
            others.extend([label in labels[1], place in places[1]])
            now = self.ticks[-1] + (1 if label == TICK else 0)
            self.ticks.extend([now, now])
        # For each moment the first one from it on that meets the other mark, None if there is none.
        self.answers = [None] * len(others)
        answer = None
        for moment in range(len(others) - 1, -1, -1):
            answer = moment if others[moment] else answer
            self.answers[moment] = answer

    def open_wait(self, moment):
        """The wait of an open meeting at a moment, None if there is none."""
        if not self.ones[moment] or self.answers[moment] is not None:
            return None
        return self.ticks[-1] - self.ticks[moment]

    def last_wait(self, moment):
        """The wait of a meeting that is answered by the last place or move, None if there is none at a moment."""
        answer = self.answers[moment]
        if not self.ones[moment] or answer is None or answer < len(self.ones) - 2:
            return None
        return self.ticks[answer] - self.ticks[moment]

    def first_open(self, wait):
        """The least moment with an open meeting of this wait."""
        return [moment for moment in range(len(self.ones)) if self.open_wait(moment) == wait][0]

    def first_answered(self, wait):
        """The least moment with a meeting of this wait that is answered by the last place or move."""
        return [moment for moment in range(len(self.ones)) if self.last_wait(moment) == wait][0]


def are_steps_back(web, one, other, place, value):
    """Whether a value is a tuple of steps from a place back to it, with a tick, that meet nothing."""
    meetings = Meetings(web, one, other)
    if type(value) is not tuple or not all([is_step(step) for step in value]):
        return False
    here = place
    for label, behind in value:
        if (label, behind) not in steps_at(web, here) or not meetings.is_open(label, behind):
            return False
        here = behind
    return here == place and TICK in [label for label, _ in value]


def is_ring(web, one, other, value):
    """Whether a value is a walk with an open meeting, its moment, and a ring along which it stays open."""
    check_marks(web, one, other)
    if not is_tuple(value, 3, 3) or not is_walk(web, value[0]):
        return False
    walk, moment, moves = value
    begin, steps = walk
    if not is_between(moment, 0, 2 * len(steps)) or Moments(walk, one, other).open_wait(moment) is None:
        return False
    return are_steps_back(web, one, other, steps[-1][1] if steps else begin, moves)


class FirstMeetings:
    """Walks with the fewest moves, the first ones first, each with the waits of its open meetings.

    A group is what can be at the end of one walk, and at the end of none ahead of it: a whole with the bit 0
    for the walk itself, and the bit w + 1 for an open meeting whose wait is w. Waits above the most are left out,
    and those at a place that are below its least: they do not count any more.
    """

    def __init__(self, web, one, other, most, leasts):
        self.web = web
        self.leasts = leasts
        self.mask = (1 << (most + 1)) - 1
        self.places = [{place: True for place in mark[0]} for mark in (one, other)]
        self.labels = [{label: True for label in mark[1]} for mark in (one, other)]
        self.seen = {}
        self.steps = {}
        self.groups = []

    def steps_from(self, place):
        """The steps of a place, but for those that do what one ahead of them does."""
        if place not in self.steps:
            found = {}
            for step in steps_at(self.web, place):
                label = step[0]
                key = (step[1], label == TICK, label in self.labels[0], label in self.labels[1])
                found.setdefault(key, step)
            self.steps[place] = [(key, found[key]) for key in found]
        return self.steps[place]

    def arrived(self, place, begun, waits, answered):
        """The waits of meetings that are open, and those that are answered, behind a place."""
        meets = place in self.places[0] and begun
        if place in self.places[1]:
            return 0, answered | waits | (1 if meets else 0)
        return (waits | (1 if meets else 0)) & self.mask, answered

    def stepped(self, group, key):
        """The waits of open and of answered meetings behind a step from a group."""
        behind, is_tick, meets, answers = key
        begun = group & 1
        waits = group >> 1
        if is_tick:
            waits = waits << 1
        if meets and begun:
            waits = waits | 1
        if answers:
            return self.arrived(behind, begun, 0, waits)
        return self.arrived(behind, begun, waits, 0)

    def enter(self, place, begun, waits, parent):
        """Take in what is new at a place: whether there is something."""
        least = self.leasts.get(place, 0)
        group = (waits >> least << (least + 1)) | begun
        group = group & ~self.seen.get(place, 0)
        if group:
            self.seen[place] = self.seen.get(place, 0) | group
            self.groups.append((place, group, parent))

    def walk_to(self, parent):
        """The walk of a parent: of a group, or of a begin, and the last step behind it."""
        steps = []
        while parent[0] is not None:
            steps.append(parent[1])
            parent = self.groups[parent[0]][2]
        return (parent[1], tuple(steps[::-1]))

    def search(self, is_goal):
        """The first of the shortest walks whose (open waits, answered waits) are a goal."""
        for begin in self.web[1]:
            waits, answered = self.arrived(begin, 1, 0, 0)
            if is_goal(waits, answered):
                return (begin, ())
            self.enter(begin, 1, waits, (None, begin))
        at = 0
        while at < len(self.groups):
            place, group, _ = self.groups[at]
            for key, step in self.steps_from(place):
                waits, answered = self.stepped(group, key)
                if is_goal(waits, answered):
                    return self.walk_to((at, step))
                self.enter(step[1], group & 1, waits, (at, step))
            at += 1
        return None


def least_waits(openness, t):
    """For each place that can be open the least wait with which one of t can still come from there."""
    found = {}
    for at, place in enumerate(openness.places):
        if openness.longest[at] is not None:
            found[place] = max(0, t - openness.longest[at])
    return found


def check_ticks(t):
    if not is_between(t, 0, TICKS):
        raise BadTicks("this is no whole from 0 to 400")


def late(web, one, other, t):
    """The first of the shortest walks with an open meeting whose wait is t, None if none can be."""
    check_marks(web, one, other)
    check_ticks(t)
    openness = Openness(web, one, other)
    bounded = openness.within()
    if bounded is not None and bounded <= t:
        return None
    meetings = FirstMeetings(web, one, other, t, least_waits(openness, t))
    walk = meetings.search(lambda waits, answered: waits >> t & 1 == 1)
    return (walk, Moments(walk, one, other).first_open(t))
