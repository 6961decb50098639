"""Spans: with which waits meetings are answered at all."""
from housekept.errors import TooLong
from housekept.marks import TICK, TICKS, check_marks, steps_at
from housekept.waits import Answers


class Rows:
    """The places that are open at 0, 1, .. up to where they come again."""

    def __init__(self, meetings):
        self.rows = [meetings.spread(meetings.starts)]
        self.met = {self.rows[0]: 0}
        self.turn = None
        while self.turn is None:
            row = meetings.after_tick(self.rows[-1])
            if row in self.met:
                self.turn = len(self.rows) - self.met[row]
            elif len(self.rows) == TICKS:
                raise TooLong(TICKS)
            else:
                self.met[row] = len(self.rows)
                self.rows.append(row)


def answering(web, meetings):
    """The places from which a move that is no tick answers, and those from which a tick does."""
    quiet, ticking = {}, {}
    for place in range(len(web[2])):
        for label, behind in steps_at(web, place):
            if not meetings.is_open(label, behind):
                lot = ticking if label == TICK else quiet
                lot[place] = True
    return quiet, ticking


def shortest_turn(turn):
    """The shortest part of which a row is a repetition."""
    for length in range(1, len(turn) + 1):
        if len(turn) % length == 0 and turn[:length] * (len(turn) // length) == turn:
            return turn[:length]
    return turn


def spans(web, one, other):
    """Truths for each wait: a head, and a turn that comes again for ever."""
    check_marks(web, one, other)
    answers = Answers(web, one, other)
    found = Rows(answers.meetings)
    quiet, ticking = answering(web, answers.meetings)
    still = [any([place in quiet for place in row]) for row in found.rows]
    later = [any([place in ticking for place in row]) for row in found.rows]
    many, length = len(found.rows), found.turn
    # From the first row that comes again on the rows turn; what a tick answers is told one wait later.
    truths = [still[0] or answers.at_once] + [still[t] or later[t - 1] for t in range(1, many)]
    first = many - length
    truths.append(still[first] or later[many - 1])
    head, turn = truths[:first + 1], shortest_turn(truths[first + 1:])
    while head and head[-1] == turn[-1]:
        turn = turn[-1:] + turn[:-1]
        head = head[:-1]
    return (tuple(head), tuple(turn))
