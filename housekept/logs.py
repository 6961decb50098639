"""Logs: what signals and persons tell of who can have gone where, seen or unseen."""
from housekept.buildings import areas_of, door_names, doors_of, is_name, kinds_of, side_area
from housekept.errors import BadCourse, BadLog, BadMoment, TooLong
from housekept.machines import Tails
from housekept.meaning import ROUNDS
from housekept.rounds import Program
from housekept.rules import begin, check_text, is_signal_of
from housekept.shapes import are_unlike, is_among, is_between, is_row, is_tuple
from housekept.ways import all_ways, areas_joined

ROWS = 40
EYES = ("eye", "dull", "deaf")


def is_person(building, value):
    return is_tuple(value, 2, 2) and is_name(value[0]) and is_among(value[1], kinds_of(building))


def are_eyes(building, value):
    """Whether a value tells for each door how it is watched: a gate by an eye."""
    doors = doors_of(building)
    if not is_tuple(value, len(doors), len(doors)) or not all([is_among(eye, EYES) for eye in value]):
        return False
    return all([door[3] == "leaf" or eye == "eye" for door, eye in zip(doors, value)])


def is_log_row(scope, persons, value):
    if not is_tuple(value, 2, 2) or not is_signal_of(scope, value[0]):
        return False
    signal, who = value
    if signal[0] != "card":
        return who is None
    return is_between(who, 0, len(persons) - 1) and persons[who][1] == signal[3]


def is_log_of(scope, value):
    if not is_tuple(value, 4, 4) or value[0] != "log":
        return False
    _, persons, eyes, rows = value
    if not is_tuple(persons, 1, 4) or not all([is_person(scope.building, person) for person in persons]):
        return False
    if not are_unlike([person[0] for person in persons]) or not are_eyes(scope.building, eyes):
        return False
    return is_tuple(rows, 0, ROWS) and all([is_log_row(scope, persons, row) for row in rows])


def check_log(scope, log):
    if not is_log_of(scope, log):
        raise BadLog("this is no log of the text")


def is_log(text, value):
    return is_log_of(check_text(text), value)


class History:
    """What the doors do along a row of signals, and where persons can go unseen meanwhile.

    Behind a signal that is too long nothing is known: no more moments are there.
    """

    def __init__(self, text, eyes, row):
        self.building = text[1]
        self.areas = areas_of(self.building)
        self.eyes = {name: eye for name, eye in zip(door_names(self.building), eyes)}
        self.row = row
        self.program = Program(text)
        self.flats = [self.program.slots.flat(begin(text))]
        self.tails = Tails(self.program)
        self.long = False
        for signal in row:
            if not self.long:
                self.go_on(signal)
        self.frees = [self.free_doors(flat) for flat in self.flats]
        self.lots = [areas_joined(self.building, self.unseen(at)) for at in range(len(self.flats))]

    def go_on(self, signal):
        flat = self.flats[-1]
        begun = self.program.alone(flat, signal)
        if begun is None:
            self.flats.append(flat)
            return
        now, told = begun
        try:
            end = self.tails.tail(now, self.program.candidates(told), self.program.is_right(signal)).end
            self.flats.append(now if end is None else end)
        except TooLong:
            self.long = True

    def free_doors(self, flat):
        stands = self.program.slots.stands(flat)
        return [name for name, how in zip(self.program.slots.doors, stands) if how == "free"]

    def unseen(self, at):
        """The doors through which persons go unseen in a moment."""
        return [name for name in self.frees[at] if self.eyes[name] != "eye"]

    def lot_of(self, at, area):
        """The lot of an area, by its place, in a moment."""
        return [place for place, lot in enumerate(self.lots[at]) if area in lot][0]

    def check_long(self):
        if self.long:
            raise TooLong(ROUNDS)

    def sides(self, at):
        """Of a row with a card or a pass the area at its side, and the one behind; None for other rows."""
        signal = self.row[at]
        if signal[0] not in ("card", "pass"):
            return None
        door, side = signal[1], signal[2]
        return (side_area(self.building, door, side), side_area(self.building, door, 1 - side))

    def lets_pass(self, at):
        """Whether a row can be, as far as doors tell: a pass needs a door that stands free, and is not deaf."""
        signal = self.row[at]
        return signal[0] != "pass" or (signal[1] in self.frees[at] and self.eyes[signal[1]] != "deaf")


def history_of(text, log):
    return History(text, log[2], [row[0] for row in log[3]])


def known_history(text, log):
    """The history of a log, TooLong if it has no end."""
    history = history_of(text, log)
    history.check_long()
    return history


def check_moment(rows, moment):
    if not is_between(moment, 0, len(rows)):
        raise BadMoment("this is no moment")


def standings(text, log):
    """The standings of all moments."""
    check_log(check_text(text), log)
    history = known_history(text, log)
    return [history.program.slots.deep(flat) for flat in history.flats]


def links(text, log, moment):
    """The lots of areas among which persons can go unseen in a moment."""
    check_log(check_text(text), log)
    check_moment(log[3], moment)
    return known_history(text, log).lots[moment]


def stepped(history, where, at, moves):
    """The placement behind unseen moves in a moment, None if one of them cannot be."""
    where = list(where)
    known = at < len(history.frees)
    for move in moves:
        if not is_tuple(move, 3, 3) or not is_between(move[0], 0, len(where) - 1):
            return None
        if not is_among(move[1], history.eyes) or not is_between(move[2], 0, 1):
            return None
        person, door, side = move
        # A gate has an eye: what has none is a leaf.
        if history.eyes[door] == "eye" or (known and door not in history.frees[at]):
            return None
        if where[person] != side_area(history.building, door, side):
            return None
        where[person] = side_area(history.building, door, 1 - side)
    return tuple(where)


def passed(history, where, at, who, passer):
    """The placement behind a row, None if it cannot be with this passer."""
    signal, sides = history.row[at], history.sides(at)
    if signal[0] == "card" and where[who] != sides[0]:
        return None
    if signal[0] != "pass":
        return where if passer is None else None
    if history.eyes[signal[1]] == "deaf" or (at < len(history.frees) and signal[1] not in history.frees[at]):
        return None
    if not is_between(passer, 0, len(where) - 1) or where[passer] != sides[0]:
        return None
    return where[:passer] + (sides[1],) + where[passer + 1:]


def placed_along(history, log, value):
    """The placements of all moments along a course, None if a value is none, as far as the history is known."""
    rows = log[3]
    if not is_tuple(value, 2, 2) or not is_row(value[0]) or not is_row(value[1]):
        return None
    if len(value[0]) != len(rows) + 1 or len(value[1]) != len(rows):
        return None
    where = (history.areas[0],) * len(log[1])
    found = []
    for at, moves in enumerate(value[0]):
        where = stepped(history, where, at, moves) if type(moves) is tuple else None
        if where is None:
            return None
        found.append(where)
        if at < len(rows):
            where = passed(history, where, at, rows[at][1], value[1][at])
            if where is None:
                return None
    return found


def is_course(text, log, value):
    """Whether a value is a course of a log."""
    check_log(check_text(text), log)
    return placed_along(known_history(text, log), log, value) is not None


def placed(text, log, course):
    """The placements of all moments of a course."""
    check_log(check_text(text), log)
    history = history_of(text, log)
    found = placed_along(history, log, course)
    if found is None:
        raise BadCourse("this is no course of the log")
    history.check_long()
    return found


class Placements:
    """The placements of the moments of a log, so far, each with one from which it comes."""

    def __init__(self, history, log):
        self.history = history
        self.told = log
        # For each moment the placements at its beginning, and those at its end: what each comes from.
        self.begins = [{(history.areas[0],) * len(log[1]): None}]
        self.ends = [self.unseen(0)]

    def unseen(self, at):
        """All placements to which persons can go unseen in a moment, each with one at its beginning."""
        lots = {area: lot for lot in self.history.lots[at] for area in lot}
        found = {}
        seen = {}
        for where in self.begins[at]:
            key = tuple([lots[area] for area in where])
            if key not in seen:
                seen[key] = True
                rows = [()]
                for lot in key:
                    rows = [row + (area,) for row in rows for area in lot]
                for row in rows:
                    found[row] = where
        return found

    def behind_row(self, at):
        """The placements behind a row: each with the one ahead, and who passes."""
        signal, who = self.told[3][at]
        found = {}
        if not self.history.lets_pass(at):
            return found
        for row in self.ends[at]:
            passers = list(range(len(row))) if signal[0] == "pass" else [None]
            for passer in passers:
                behind = passed(self.history, row, at, who, passer)
                if behind is not None and behind not in found:
                    found[behind] = (row, passer)
        return found

    def go_on(self):
        """The index of the first row that cannot be, None if all can."""
        for at in range(len(self.told[3])):
            found = self.behind_row(at)
            if not found:
                return at
            self.begins.append(found)
            self.ends.append(self.unseen(at + 1))
        return None

    def moves(self, at, begun, ended):
        """Unseen moves from one placement to another one of the same lots."""
        history = self.history
        found = []
        for person, (area, other) in enumerate(zip(begun, ended)):
            here = area
            for door in all_ways(history.building, history.unseen(at), area, other)[0][0]:
                side = 0 if side_area(history.building, door, 0) == here else 1
                found.append((person, door, side))
                here = side_area(history.building, door, 1 - side)
        return tuple(found)

    def course(self):
        """A course to one of the placements of the last moment."""
        row = list(self.ends[-1])[0]
        moves, passers = [], []
        for at in range(len(self.ends) - 1, -1, -1):
            begun = self.ends[at][row]
            moves.append(self.moves(at, begun, row))
            if at > 0:
                row, passer = self.begins[at][begun]
                passers.append(passer)
        return (moves[::-1], passers[::-1])


def first_impossible(text, log):
    """The index of the first row with which the rows so far have no course, None if the log has one."""
    check_log(check_text(text), log)
    return Placements(known_history(text, log), log).go_on()


def course_of(text, log):
    """A course of a log, None if there is none."""
    check_log(check_text(text), log)
    placements = Placements(known_history(text, log), log)
    return placements.course() if placements.go_on() is None else None
