"""Waits: how soon meetings are answered, at the least."""
from housekept.marks import Meetings, TICK, check_marks, places_from, steps_at
from housekept.times import Moments, are_place_wholes, check_ticks


class Answers:
    """The least waits of open meetings, place by place, and the least wait with which one is answered."""

    def __init__(self, web, one, other):
        self.meetings = Meetings(web, one, other)
        self.web = web
        self.at_once = self.is_at_once(one)
        self.least = {}
        self.soonest = 0 if self.at_once else None
        self.spread(self.meetings.starts)

    def is_at_once(self, one):
        """Whether a meeting is answered in its moment, or by the place behind its move."""
        labels = {label: True for label in one[1]}
        places = {place: True for place in one[0]}
        for place in places_from(self.web, self.web[1]):
            if place in places and place in self.meetings.answers:
                return True
            for label, behind in steps_at(self.web, place):
                if label in labels and not self.meetings.is_open(label, behind):
                    return True
        return False

    def spread(self, starts):
        """Go on from places at which the wait is 0, then from those at which it is 1, and so on."""
        layer = list(starts)
        wait = 0
        while layer:
            later = {}
            order = [place for place in layer if place not in self.least]
            for place in order:
                self.least[place] = wait
            at = 0
            while at < len(order):
                here = order[at]
                for label, behind in steps_at(self.web, here):
                    self.go(order, later, wait, label, behind)
                at += 1
            layer = list(later)
            wait += 1

    def go(self, order, later, wait, label, behind):
        """One step from a place with this wait."""
        if not self.meetings.is_open(label, behind):
            answered = wait + 1 if label == TICK else wait
            self.soonest = answered if self.soonest is None else min(self.soonest, answered)
        elif behind not in self.least:
            if label == TICK:
                later[behind] = True
            else:
                self.least[behind] = wait
                order.append(behind)


class FirstAnswers:
    """Walks with the fewest moves, the first ones first, up to an answer with the least wait of all.

    With more than the least wait of its place no open meeting comes to such an answer. So a group, which is what
    can be at the end of one walk and of none ahead of it, tells of two things: the walk itself, an open meeting.
    """

    def __init__(self, answers, one):
        self.answers = answers
        self.meetings = answers.meetings
        self.places = {place: True for place in one[0]}
        self.labels = {label: True for label in one[1]}
        self.seen = {}
        self.groups = []

    def is_answer(self, label, behind, group):
        """Whether a step from a group answers a meeting with the least wait."""
        place, still, held, _ = group
        soonest = self.answers.soonest
        answers = not self.meetings.is_open(label, behind)
        if held and answers and self.answers.least[place] + (1 if label == TICK else 0) == soonest:
            return True
        if not still or soonest > 0:
            return False
        return (answers and label in self.labels) or (behind in self.places and behind in self.meetings.answers)

    def holds(self, label, behind, group):
        """Whether behind a step from a group a meeting is open, with the least wait."""
        place, still, held, _ = group
        least = self.answers.least
        if held and self.meetings.is_open(label, behind):
            if least[behind] == least[place] + (1 if label == TICK else 0):
                return True
        if not still or behind in self.meetings.answers:
            return False
        return behind in self.places or (label in self.labels and label not in self.meetings.silences)

    def enter(self, place, still, held, parent):
        """Take in what is new at a place."""
        known = self.seen.get(place, (False, False))
        if (still and not known[0]) or (held and not known[1]):
            self.seen[place] = (known[0] or still, known[1] or held)
            self.groups.append((place, still and not known[0], held and not known[1], parent))

    def walk_to(self, parent):
        """The walk of a parent: of a group, or of a begin, and the last step behind it."""
        steps = []
        while parent[0] is not None:
            steps.append(parent[1])
            parent = self.groups[parent[0]][3]
        return (parent[1], tuple(steps[::-1]))

    def search(self, web):
        for begin in web[1]:
            met = begin in self.places
            if met and begin in self.meetings.answers:
                return (begin, ())
            self.enter(begin, True, met, (None, begin))
        at = 0
        while at < len(self.groups):
            group = self.groups[at]
            for step in steps_at(web, group[0]):
                if self.is_answer(step[0], step[1], group):
                    return self.walk_to((at, step))
                self.enter(step[1], group[1], self.holds(step[0], step[1], group), (at, step))
            at += 1
        return None


def soonest(web, one, other):
    """The least wait of an answered meeting, None if there is none."""
    check_marks(web, one, other)
    return Answers(web, one, other).soonest


def soon(web, one, other):
    """The first of the shortest walks that end with the answer of a meeting with the least wait."""
    check_marks(web, one, other)
    answers = Answers(web, one, other)
    if answers.soonest is None:
        return None
    walk = FirstAnswers(answers, one).search(web)
    return (walk, Moments(walk, one, other).first_answered(answers.soonest))


def is_delay_key(meetings, t, value, place):
    """Whether a key of a dict is as all moves from there ask for."""
    for label, behind in steps_at(meetings.web, place):
        wait = value[place] + 1 if label == TICK else value[place]
        if not meetings.is_open(label, behind):
            if wait < t:
                return False
        elif behind not in value or value[behind] > wait:
            return False
    return True


def is_delay(web, one, other, t, value):
    """Whether a value is a dict that shows that no meeting is answered with a wait below t."""
    check_marks(web, one, other)
    check_ticks(t)
    if not are_place_wholes(web, value):
        return False
    answers = Answers(web, one, other)
    if not all([place in value and value[place] == 0 for place in answers.meetings.starts]):
        return False
    if t > 0 and answers.at_once:
        return False
    return all([is_delay_key(answers.meetings, t, value, place) for place in value])


def delay(web, one, other, t):
    """A delay for t, None if a meeting is answered sooner."""
    check_marks(web, one, other)
    check_ticks(t)
    answers = Answers(web, one, other)
    if answers.soonest is not None and answers.soonest < t:
        return None
    return {place: answers.least[place] for place in sorted(answers.least)}
