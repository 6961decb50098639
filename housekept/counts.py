"""Crowds without names: how many persons can be where, when a row of signals was made; and least lies."""
from housekept.buildings import areas_of, inner_areas, kinds_of
from housekept.errors import BadAreas, BadCount, BadEyes, BadGreatest, BadRow, NoCourse, TooMany
from housekept.flows import Flow
from housekept.logs import ROWS, History, Placements, are_eyes, check_log, check_moment, known_history
from housekept.machines import is_part
from housekept.meaning import check_row
from housekept.promises import rows_of_sum
from housekept.rules import check_text
from housekept.shapes import is_between, is_from, is_row, is_tuple, lots_below

ENOUGH = 40
LIES = 10


def check_watched_row(text, eyes, row):
    """The errors of a text, eyes and a row of at most 40 signals."""
    scope = check_text(text)
    if not are_eyes(text[1], eyes):
        raise BadEyes("these are no eyes of the building")
    if not is_row(row) or len(row) > ROWS:
        raise BadRow("this is no list of at most 40 signals")
    check_row(scope, row)


def check_areas(text, areas):
    if not is_part(areas, inner_areas(text[1])) or len(areas) == 0:
        raise BadAreas("this is no tuple of inner areas, in order")


def row_history(text, eyes, row):
    history = History(text, eyes, row)
    history.check_long()
    return history


class Streams:
    """All that persons can do along a row, as a flow.

    In each moment persons come into a lot of areas, from there into its areas, and from there, some by a pass,
    into the lots of the next moment. Behind the last one they flow back to outside.
    """

    def __init__(self, history):
        self.history = history
        moments = len(history.flats)
        self.size = len(history.areas)
        # The nodes of a moment are its lots, and behind them its areas.
        self.flow = Flow(2 * self.size * moments)
        self.into = [[self.flow.edge(self.lot_node(at, area), self.area_node(at, area), None)
                      for area in history.areas] for at in range(moments)]
        for at in range(moments):
            for name in history.areas:
                there = self.lot_node(0, history.areas[0]) if at + 1 == moments else self.lot_node(at + 1, name)
                self.flow.edge(self.area_node(at, name), there, None)

    def lot_node(self, at, area):
        return 2 * self.size * at + self.history.lot_of(at, area)

    def area_node(self, at, area):
        return 2 * self.size * at + self.size + self.history.areas.index(area)

    def take(self, at):
        """Whether a row can be made, too, by some crowd that makes the rows ahead of it."""
        if not self.history.lets_pass(at):
            return False
        sides = self.history.sides(at)
        if sides is None:
            return True
        if self.history.row[at][0] == "card":
            return self.flow.force(self.into[at][self.history.areas.index(sides[0])])
        return self.flow.force(self.flow.edge(self.area_node(at, sides[0]), self.lot_node(at + 1, sides[1]), 1))

    def go_on(self):
        """The index of the first signal with which no crowd can have made the row, None if one can."""
        for at in range(len(self.history.row)):
            if not self.take(at):
                return at
        return None

    def best(self, moment, areas, gain):
        """Let as many (gain 1) or as few (gain -1) persons be in some areas as can; True if without bound."""
        return self.flow.improve({edge: gain for edge in self.edges_at(moment, areas)}, ENOUGH)

    def edges_at(self, moment, areas):
        return [self.into[moment][self.history.areas.index(area)] for area in areas]

    def number(self, moment, areas):
        return sum([self.flow.amounts[edge] for edge in self.edges_at(moment, areas)])

    def placed(self):
        """For each moment how many persons are in each area."""
        return [tuple([self.flow.amounts[edge] for edge in edges]) for edges in self.into]


def crowd_fits(text, eyes, row):
    """None if some crowd can have made a row, otherwise the index of the first signal with which none can."""
    check_watched_row(text, eyes, row)
    return Streams(row_history(text, eyes, row)).go_on()


def lot_totals(history, at, numbers):
    """How many persons are in each lot of a moment."""
    counted = {area: number for area, number in zip(history.areas, numbers)}
    return tuple([sum([counted[area] for area in lot]) for lot in history.lots[at]])


def behind_counts(history, at, numbers):
    """How many persons are in each area behind a row, None if it cannot be."""
    sides = history.sides(at)
    if sides is None:
        return numbers
    here, there = history.areas.index(sides[0]), history.areas.index(sides[1])
    if numbers[here] == 0:
        return None
    if history.row[at][0] == "card":
        return numbers
    return tuple([number + (1 if area == there else 0) - (1 if area == here else 0)
                  for area, number in enumerate(numbers)])


def counts_before(history, all_counts, moment):
    """Which numbers of persons in the areas can be at a moment, by the rows ahead of it."""
    totals = {lot_totals(history, 0, (sum(all_counts[0]),) + (0,) * (len(history.areas) - 1)): True}
    for at in range(moment):
        nexts = {}
        for numbers in all_counts if history.lets_pass(at) else []:
            if lot_totals(history, at, numbers) in totals:
                behind = behind_counts(history, at, numbers)
                if behind is not None:
                    nexts[lot_totals(history, at + 1, behind)] = True
        totals = nexts
    return [numbers for numbers in all_counts if lot_totals(history, moment, numbers) in totals]


def counts_on(history, all_counts, moment):
    """From which numbers of persons in the areas the rows from a moment on can go on: a dict."""
    going = {numbers: True for numbers in all_counts}
    for at in range(len(history.row) - 1, moment - 1, -1):
        totals = {lot_totals(history, at + 1, numbers): True for numbers in going}
        going = {}
        for numbers in all_counts if history.lets_pass(at) else []:
            behind = behind_counts(history, at, numbers)
            if behind is not None and lot_totals(history, at + 1, behind) in totals:
                going[numbers] = True
    return going


def numbers_there(text, eyes, row, count, moment, areas):
    """All numbers of persons that can be in some areas at a moment, of just so many in all."""
    check_watched_row(text, eyes, row)
    if not is_between(count, 1, 10):
        raise BadCount("this is no whole from 1 to 10")
    check_moment(row, moment)
    check_areas(text, areas)
    history = row_history(text, eyes, row)
    all_counts = rows_of_sum(len(history.areas), count)
    going = counts_on(history, all_counts, moment)
    places = [history.areas.index(area) for area in areas]
    found = {sum([numbers[place] for place in places]): True
             for numbers in counts_before(history, all_counts, moment) if numbers in going}
    return tuple(sorted(found))


def check_question_there(text, eyes, row, moment, areas):
    check_watched_row(text, eyes, row)
    check_moment(row, moment)
    check_areas(text, areas)


def made_streams(text, eyes, row):
    """The flow of a row that some crowd can have made."""
    streams = Streams(row_history(text, eyes, row))
    wrong = streams.go_on()
    if wrong is not None:
        raise NoCourse(wrong)
    return streams


def bounds_there(text, eyes, row, moment, areas):
    """The least and the greatest number of persons in some areas at a moment, None without bound."""
    check_question_there(text, eyes, row, moment, areas)
    streams = made_streams(text, eyes, row)
    streams.best(moment, areas, -1)
    least = streams.number(moment, areas)
    without = streams.best(moment, areas, 1)
    return (least, None if without else streams.number(moment, areas))


def crowd_course(text, eyes, row, moment, areas, greatest):
    """How many persons there are, and where, in a course with the greatest or the least number in some areas."""
    check_question_there(text, eyes, row, moment, areas)
    if greatest is not True and greatest is not False:
        raise BadGreatest("this is neither True nor False")
    streams = made_streams(text, eyes, row)
    streams.best(moment, areas, 1 if greatest else -1)
    found = streams.placed()
    if sum(found[0]) == 0:
        # Where nobody is needed, somebody stays outside.
        found = [(1,) + numbers[1:] for numbers in found]
    return (sum(found[0]), found)


def are_counts(value, many, count):
    """Whether a value is a tuple of so many wholes from 0 on with a sum."""
    return is_tuple(value, many, many) and all([is_from(number, 0) for number in value]) and sum(value) == count


def is_crowd_course(text, eyes, row, value):
    """Whether a value is a pair of how many persons there are, and where, in some course."""
    check_watched_row(text, eyes, row)
    history = row_history(text, eyes, row)
    if not is_tuple(value, 2, 2) or not is_from(value[0], 0) or not is_row(value[1]):
        return False
    count, found = value
    if len(found) != len(row) + 1 or not all([are_counts(numbers, len(history.areas), count) for numbers in found]):
        return False
    behind = (count,) + (0,) * (len(history.areas) - 1)
    for at, numbers in enumerate(found):
        if lot_totals(history, at, behind) != lot_totals(history, at, numbers):
            return False
        if at < len(row):
            behind = behind_counts(history, at, numbers) if history.lets_pass(at) else None
            if behind is None:
                return False
    return True


def log_without(log, lot):
    return log[:3] + (tuple([row for at, row in enumerate(log[3]) if at not in lot]),)


def has_course(text, log):
    return Placements(known_history(text, log), log).go_on() is None


def least_lies(text, log):
    """The least lots of rows without which a log has a course: as few as can be."""
    check_log(check_text(text), log)
    many = len(log[3])
    if many > LIES:
        raise TooMany(LIES)
    found = []
    for lot in lots_below(many):
        if found and len(lot) > len(found[0]):
            return found
        if has_course(text, log_without(log, lot)):
            found.append(lot)
    return found


def crowd_of(building, persons, placement):
    """The crowd of a placement."""
    return tuple([tuple([len([1 for person, where in zip(persons, placement) if person[1] == kind and where == area])
                         for area in areas_of(building)]) for kind in kinds_of(building)])
