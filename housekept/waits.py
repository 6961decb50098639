"""Waits: how soon meetings are answered, at the least."""
from housekept.marks import Meetings, TICK, check_marks, places_from, steps_at
from housekept.times import Moments, are_place_wholes, check_ticks


class Answers:
    """The least waits of open meetings, place by place, and the least wait with which one is answered."""

    def __init__(self, web, one, other):
        self.meetings = Meetings(web, one, other)
        self.web = web
        self.at_once = self.is_at_once(one)
        self.least = {}
        self.soonest = 0 if self.at_once else None
        self.spread(self.meetings.starts)

    def is_at_once(self, one):
        """Whether a meeting is answered in its moment, or by the place behind its move."""
        labels = {label: True for label in one[1]}
        places = {place: True for place in one[0]}
        for place in places_from(self.web, self.web[1]):
            if place in places and place in self.meetings.answers:
                return True
            for label, behind in steps_at(self.web, place):
                if label in labels and not self.meetings.is_open(label, behind):
                    return True
        return False

    def spread(self, starts):
        """Go on from places at which the wait is 0, then from those at which it is 1, and so on."""
        layer = list(starts)
        wait = 0
        while layer:
            later = {}
            order = [place for place in layer if place not in self.least]
            for place in order:
                self.least[place] = wait
            at = 0
            while at < len(order):
                here = order[at]
                for label, behind in steps_at(self.web, here):
                    self.go(order, later, wait, label, behind)
                at += 1
            layer = list(later)
            wait += 1

    def go(self, order, later, wait, label, behind):
        """One step from a place with this wait."""
        if not self.meetings.is_open(label, behind):
            answered = wait + 1 if label == TICK else wait
            self.soonest = answered if self.soonest is None else min(self.soonest, answered)
        elif behind not in self.least:
            if label == TICK:
                later[behind] = True
            else:
                self.least[behind] = wait
                order.append(behind)


class FirstMeetings:
    """Walks with the fewest moves, the first ones first, each with the waits of its open meetings.

    A group is what can be at the end of one walk, and at the end of none ahead of it: a whole with the bit 0
    for the walk itself, and the bit w + 1 for an open meeting whose wait is w. Waits above the most are left out.
    """

    def __init__(self, web, one, other, most):
        self.web = web
        self.mask = (1 << (most + 1)) - 1
        self.places = [{at: True for at in mark[0]} for mark in (one, other)]
        self.labels = [{word: True for word in mark[1]} for mark in (one, other)]
        self.seen = {}
        self.steps = {}
        self.groups = []

    def steps_from(self, place):
        """The steps of a place, but for those that do what one ahead of them does."""
        if place not in self.steps:
            found = {}
            for step in steps_at(self.web, place):
                label = step[0]
                key = (step[1], label == TICK, label in self.labels[0], label in self.labels[1])
                found.setdefault(key, step)
            self.steps[place] = [(key, found[key]) for key in found]
        return self.steps[place]

    def arrived(self, place, begun, waits, answered):
        """The waits of meetings that are open, and those that are answered, behind a place."""
        meets = place in self.places[0] and begun
        if place in self.places[1]:
            return 0, answered | waits | (1 if meets else 0)
        return (waits | (1 if meets else 0)) & self.mask, answered

    def stepped(self, group, key):
        """The waits of open and of answered meetings behind a step from a group."""
        behind, is_tick, meets, answers = key
        begun = group & 1
        waits = group >> 1
        if is_tick:
            waits = waits << 1
        if meets and begun:
            waits = waits | 1
        if answers:
            return self.arrived(behind, begun, 0, waits)
        return self.arrived(behind, begun, waits, 0)

    def enter(self, place, begun, waits, parent):
        """Take in what is new at a place."""
        group = ((waits << 1) | begun) & ~self.seen.get(place, 0)
        if group:
            self.seen[place] = self.seen.get(place, 0) | group
            self.groups.append((place, group, parent))

    def walk_to(self, parent):
        """The walk of a parent: of a group, or of a begin, and the last step behind it."""
        steps = []
        while parent[0] is not None:
            steps.append(parent[1])
            parent = self.groups[parent[0]][2]
        return (parent[1], tuple(steps[::-1]))

    def search(self, is_goal):
        """The first of the shortest walks whose (open waits, answered waits) are a goal."""
        for begin in self.web[1]:
            waits, answered = self.arrived(begin, 1, 0, 0)
            if is_goal(waits, answered):
                return (begin, ())
            self.enter(begin, 1, waits, (None, begin))
        at = 0
        while at < len(self.groups):
            place, group, _ = self.groups[at]
            for key, step in self.steps_from(place):
                waits, answered = self.stepped(group, key)
                if is_goal(waits, answered):
                    return self.walk_to((at, step))
                self.enter(step[1], group & 1, waits, (at, step))
            at += 1
        return None


def soonest(web, one, other):
    """The least wait of an answered meeting, None if there is none."""
    check_marks(web, one, other)
    return Answers(web, one, other).soonest


def soon(web, one, other):
    """The first of the shortest walks that end with the answer of a meeting with the least wait."""
    check_marks(web, one, other)
    least = Answers(web, one, other).soonest
    if least is None:
        return None
    walk = FirstMeetings(web, one, other, least).search(lambda waits, answered: answered >> least & 1 == 1)
    return (walk, Moments(walk, one, other).first_answered(least))


def is_delay_key(meetings, t, value, place):
    """Whether a key of a dict is as all moves from there ask for."""
    for label, behind in steps_at(meetings.web, place):
        wait = value[place] + 1 if label == TICK else value[place]
        if not meetings.is_open(label, behind):
            if wait < t:
                return False
        elif behind not in value or value[behind] > wait:
            return False
    return True


def is_delay(web, one, other, t, value):
    """Whether a value is a dict that shows that no meeting is answered with a wait below t."""
    check_marks(web, one, other)
    check_ticks(t)
    if not are_place_wholes(web, value):
        return False
    answers = Answers(web, one, other)
    if not all([place in value and value[place] == 0 for place in answers.meetings.starts]):
        return False
    if t > 0 and answers.at_once:
        return False
    return all([is_delay_key(answers.meetings, t, value, place) for place in value])


def delay(web, one, other, t):
    """A delay for t, None if a meeting is answered sooner."""
    check_marks(web, one, other)
    check_ticks(t)
    answers = Answers(web, one, other)
    if answers.soonest is not None and answers.soonest < t:
        return None
    return {place: answers.least[place] for place in sorted(answers.least)}
