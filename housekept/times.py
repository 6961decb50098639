"""Times: within how many ticks meetings are answered, and what shows it."""
from heapq import heappop, heappush
from housekept.errors import BadClock, BadTicks
from housekept.graphs import labels_to, longest_ticks, tick_ring
from housekept.marks import Meetings, TICK, TICKS, check_marks, is_step, is_walk, places_from, steps_at
from housekept.shapes import is_between, is_from, is_tuple


class Openness:
    """The places at which meetings are open, and the moves by which they stay so: a graph over these places."""

    def __init__(self, web, one, other):
        meetings = Meetings(web, one, other)
        self.starts = meetings.starts
        self.places = list(self.starts)
        self.numbers = {place: at for at, place in enumerate(self.places)}
        self.graph = []
        while len(self.graph) < len(self.places):
            self.graph.append(self.edges(meetings, self.places[len(self.graph)]))
        self.longest = longest_ticks(self.graph)

    def edges(self, meetings, place):
        found = {}
        for step in steps_at(meetings.web, place):
            label, behind = step
            if meetings.is_open(label, behind):
                if behind not in self.numbers:
                    self.numbers[behind] = len(self.places)
                    self.places.append(behind)
                found.setdefault((self.numbers[behind], 1 if label == TICK else 0), step)
        return [(at, tick, found[(at, tick)]) for at, tick in found]

    def within(self):
        waits = [self.longest[self.numbers[start]] for start in self.starts]
        if None in waits:
            return None
        return max(waits) + 1 if waits else 0

    def ring_from(self, start):
        """The steps from a place to a ring with a tick, and along it; None if there is none."""
        at = self.numbers[start]
        return tick_ring(self.graph, at) if self.longest[at] is None else None


def within(web, one, other):
    """The least t at which no place is open, None if there is none."""
    check_marks(web, one, other)
    return Openness(web, one, other).within()


def are_place_wholes(web, value):
    """Whether a value is a dict from places to wholes from 0 on."""
    if type(value) is not dict:
        return False
    many = len(web[2])
    return all([is_between(place, 0, many - 1) and is_from(value[place], 0) for place in value])


def is_clock_of(web, one, other, value):
    if not are_place_wholes(web, value):
        return False
    meetings = Meetings(web, one, other)
    if not all([place in value for place in meetings.starts]):
        return False
    for place in value:
        for label, behind in steps_at(web, place):
            if meetings.is_open(label, behind):
                left = value[place] - 1 if label == TICK else value[place]
                if behind not in value or value[behind] > left:
                    return False
    return True


def is_clock(web, one, other, value):
    """Whether a value is a dict of wholes that do not grow along open moves, and lessen by ticks."""
    check_marks(web, one, other)
    return is_clock_of(web, one, other, value)


def bound(web, one, other, value):
    """Within how many ticks a clock shows that meetings are answered."""
    check_marks(web, one, other)
    if not is_clock_of(web, one, other, value):
        raise BadClock("this is no clock")
    found = [value[place] for place in Meetings(web, one, other).starts]
    return max(found) + 1 if found else 0


def clock(web, one, other):
    """For each place that can be open the greatest time for which it stays so, None if there is none."""
    check_marks(web, one, other)
    openness = Openness(web, one, other)
    if openness.within() is None:
        return None
    return {place: openness.longest[openness.numbers[place]] for place in sorted(openness.places)}


class Comings:
    """The places that come, each with a shortest walk."""

    def __init__(self, web):
        self.web = web
        self.parents = {begin: None for begin in web[1]}
        self.order = list(self.parents)
        at = 0
        while at < len(self.order):
            here = self.order[at]
            for step in steps_at(web, here):
                if step[1] not in self.parents:
                    self.parents[step[1]] = (here, step)
                    self.order.append(step[1])
            at += 1

    def steps_to(self, place):
        return labels_to(self.parents, place)

    def begin_of(self, place):
        while self.parents[place] is not None:
            place = self.parents[place][0]
        return place


def opening(web, one, other, start):
    """A walk that ends at a place with an open meeting that begins with its last place or move, and the moment."""
    comings = Comings(web)
    if start in one[0]:
        steps = comings.steps_to(start)
        return (comings.begin_of(start), steps, 2 * len(steps))
    for place in comings.order:
        for label, behind in steps_at(web, place):
            if behind == start and label in one[1] and label not in other[1]:
                steps = comings.steps_to(place) + [(label, behind)]
                return (comings.begin_of(place), steps, 2 * len(steps) - 1)
    return None


def ring(web, one, other):
    """An open meeting and a ring of moves along which it stays open for ever, None if there is none."""
    check_marks(web, one, other)
    openness = Openness(web, one, other)
    for start in openness.starts:
        found = openness.ring_from(start)
        if found is not None:
            begin, steps, moment = opening(web, one, other, start)
            return ((begin, tuple(steps + found[0])), moment, tuple(found[1]))
    return None


class Moments:
    """The moments of a walk: which of them meet one mark, and where each is answered by the other one."""

    def __init__(self, walk, one, other):
        begin, steps = walk
        places = [{at: True for at in mark[0]} for mark in (one, other)]
        labels = [{word: True for word in mark[1]} for mark in (one, other)]
        self.ones = [begin in places[0]]
        others = [begin in places[1]]
        self.ticks = [0]
        for label, place in steps:
            self.ones.extend([label in labels[0], place in places[0]])
            others.extend([label in labels[1], place in places[1]])
            now = self.ticks[-1] + (1 if label == TICK else 0)
            self.ticks.extend([now, now])
        # For each moment the first one from it on that meets the other mark, None if there is none.
        self.answers = [None] * len(others)
        answer = None
        for moment in range(len(others) - 1, -1, -1):
            answer = moment if others[moment] else answer
            self.answers[moment] = answer

    def open_wait(self, moment):
        """The wait of an open meeting at a moment, None if there is none."""
        if not self.ones[moment] or self.answers[moment] is not None:
            return None
        return self.ticks[-1] - self.ticks[moment]

    def last_wait(self, moment):
        """The wait of a meeting that is answered by the last place or move, None if there is none at a moment."""
        answer = self.answers[moment]
        if not self.ones[moment] or answer is None or answer < len(self.ones) - 2:
            return None
        return self.ticks[answer] - self.ticks[moment]

    def first_open(self, wait):
        """The least moment with an open meeting of this wait."""
        return [moment for moment in range(len(self.ones)) if self.open_wait(moment) == wait][0]

    def first_answered(self, wait):
        """The least moment with a meeting of this wait that is answered by the last place or move."""
        return [moment for moment in range(len(self.ones)) if self.last_wait(moment) == wait][0]


def are_steps_back(web, one, other, place, value):
    """Whether a value is a tuple of steps from a place back to it, with a tick, that meet nothing."""
    meetings = Meetings(web, one, other)
    if type(value) is not tuple or not all([is_step(step) for step in value]):
        return False
    here = place
    for label, behind in value:
        if (label, behind) not in steps_at(web, here) or not meetings.is_open(label, behind):
            return False
        here = behind
    return here == place and TICK in [label for label, _ in value]


def is_ring(web, one, other, value):
    """Whether a value is a walk with an open meeting, its moment, and a ring along which it stays open."""
    check_marks(web, one, other)
    if not is_tuple(value, 3, 3) or not is_walk(web, value[0]):
        return False
    walk, moment, moves = value
    begin, steps = walk
    if not is_between(moment, 0, 2 * len(steps)) or Moments(walk, one, other).open_wait(moment) is None:
        return False
    return are_steps_back(web, one, other, steps[-1][1] if steps else begin, moves)


class Left:
    """For each place that can be open how many moves it takes at least until so many more ticks have come.

    They are told by rows, one for each number of ticks. A row that is one ahead of it, but for as many moves more at
    each place, is followed by rows that are those behind that one, with as many moves more.
    """

    def __init__(self, openness, most):
        self.graph = openness.graph
        self.quiet_back = [[] for _ in self.graph]
        self.ticks = []
        for at, edges in enumerate(self.graph):
            self.ticks.append([behind for behind, tick, _ in edges if tick == 1])
            for behind, tick, _ in edges:
                if tick == 0:
                    self.quiet_back[behind].append(at)
        self.rows = [[0] * len(self.graph)]
        self.turn = None
        self.more = 0
        self.met = {}
        while self.turn is None and len(self.rows) <= most:
            self.look_back()
            if self.turn is None:
                self.rows.append(self.row_ahead(self.rows[-1]))

    def look_back(self):
        """Whether the last row is one ahead of it, but for as many moves more."""
        row = self.rows[-1]
        least = min([many for many in row if many is not None], default=0)
        key = tuple([None if many is None else many - least for many in row])
        if key in self.met:
            at, ahead = self.met[key]
            self.turn = len(self.rows) - 1 - at
            self.more = least - ahead
        else:
            self.met[key] = (len(self.rows) - 1, least)

    def row_ahead(self, row):
        """The row for one tick more."""
        found = [None] * len(row)
        queue = []
        for at, lot in enumerate(self.ticks):
            many = [row[behind] for behind in lot if row[behind] is not None]
            if many:
                found[at] = min(many) + 1
                heappush(queue, (found[at], at))
        while queue:
            many, at = heappop(queue)
            for source in self.quiet_back[at] if many == found[at] else ():
                if found[source] is None or many + 1 < found[source]:
                    found[source] = many + 1
                    heappush(queue, (many + 1, source))
        return found

    def moves(self, at, ticks):
        """From a place, by its number here, the least moves to so many more ticks, None if these cannot come."""
        if ticks < len(self.rows):
            return self.rows[ticks][at]
        first = len(self.rows) - 1 - self.turn
        turns, place = (ticks - first) // self.turn, (ticks - first) % self.turn
        many = self.rows[first + place][at]
        return None if many is None else many + turns * self.more


class Late:
    """The first of the shortest walks that end with an open meeting whose wait is t."""

    def __init__(self, web, one, other, openness, t):
        self.web = web
        self.t = t
        self.openness = openness
        self.left = Left(openness, t)
        self.meetings = Meetings(web, one, other)
        self.places = {place: True for place in one[0]}
        self.labels = {label: True for label in one[1]}
        # For each place from which a meeting is still to begin the least moves to the end.
        self.ahead = {}
        self.look_ahead()

    def left_from(self, place, wait):
        """From a place with an open meeting of this wait the least moves to the end, None if there is none."""
        return self.left.moves(self.openness.numbers[place], self.t - wait)

    def begins(self, label, behind):
        """Whether a meeting that stays open begins with a move, or with the place behind it."""
        if behind in self.meetings.answers:
            return False
        return behind in self.places or (label in self.labels and label not in self.meetings.silences)

    def look_ahead(self):
        sources = {}
        queue = []
        for place in places_from(self.web, self.web[1]):
            best = None
            for label, behind in steps_at(self.web, place):
                sources.setdefault(behind, {}).setdefault(place, True)
                many = self.left_from(behind, 0) if self.begins(label, behind) else None
                if many is not None and (best is None or many + 1 < best):
                    best = many + 1
            if best is not None:
                self.ahead[place] = best
                heappush(queue, (best, place))
        while queue:
            many, place = heappop(queue)
            for source in sources.get(place, {}) if many == self.ahead[place] else ():
                if source not in self.ahead or many + 1 < self.ahead[source]:
                    self.ahead[source] = many + 1
                    heappush(queue, (many + 1, source))

    def at_begin(self, begin):
        """The least moves from a begin, and from it with a meeting there: None where there is none."""
        met = begin in self.places and begin not in self.meetings.answers
        return [self.ahead.get(begin, None), self.left_from(begin, 0) if met else None]

    def behind(self, label, behind, still, waits, left):
        """What a step leads to with so many moves left: whether no meeting has begun, and waits of open ones."""
        found = {}
        if self.meetings.is_open(label, behind):
            found = {wait + 1 if label == TICK else wait: True for wait in waits}
        if still and self.begins(label, behind):
            found[0] = True
        lot = [wait for wait in found if wait <= self.t and self.left_from(behind, wait) == left]
        return still and self.ahead.get(behind, None) == left, lot

    def walk(self):
        left, at = min([(many, at) for at, begin in enumerate(self.web[1])
                        for many in self.at_begin(begin) if many is not None])
        place = self.web[1][at]
        moves = self.at_begin(place)
        still, waits = moves[0] == left, [0] if moves[1] == left else []
        steps = []
        while left > 0:
            left -= 1
            for label, behind in steps_at(self.web, place):
                going = self.behind(label, behind, still, waits, left)
                if going[0] or going[1]:
                    steps.append((label, behind))
                    break
            still, waits = going
            place = steps[-1][1]
        return (self.web[1][at], tuple(steps))


def check_ticks(t):
    if not is_between(t, 0, TICKS):
        raise BadTicks("this is no whole from 0 to 400")


def late(web, one, other, t):
    """The first of the shortest walks with an open meeting whose wait is t, None if none can be."""
    check_marks(web, one, other)
    check_ticks(t)
    openness = Openness(web, one, other)
    bounded = openness.within()
    if bounded is not None and bounded <= t:
        return None
    walk = Late(web, one, other, openness, t).walk()
    return (walk, Moments(walk, one, other).first_open(t))
