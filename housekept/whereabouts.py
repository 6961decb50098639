"""Whereabouts: where persons can be, and must be, by all that a log tells."""
from housekept.buildings import check_area
from housekept.errors import BadPerson, BadPlacement, NoCourse
from housekept.logs import Placements, check_log, check_moment, known_history, passed
from housekept.rules import check_text
from housekept.shapes import is_among, is_between, is_row


class Tracks:
    """The placements of all moments of a log: those to which the rows ahead lead, and from which one can go on."""

    def __init__(self, text, log):
        check_log(check_text(text), log)
        self.history = known_history(text, log)
        self.told = log
        self.many = len(log[1])
        self.forward = Placements(self.history, log)
        wrong = self.forward.go_on()
        if wrong is not None:
            raise NoCourse(wrong)
        self.known = {}
        self.every = self.all_placements()
        self.later = self.going_on()

    def rows(self):
        return self.told[3]

    def all_placements(self):
        """All placements that can be thought of."""
        found = [()]
        for _ in range(self.many):
            found = [row + (area,) for row in found for area in self.history.areas]
        return found

    def lots(self, at, placement):
        """For each person the lot of areas among which it goes unseen in a moment."""
        if at not in self.known:
            self.known[at] = {area: lot for lot in self.history.lots[at] for area in lot}
        return tuple([self.known[at][area] for area in placement])

    def behind(self, at, placement):
        """The placements right behind a row, each with who passes: pairs."""
        signal, who = self.rows()[at]
        passers = list(range(self.many)) if signal[0] == "pass" else [None]
        found = [(passed(self.history, placement, at, who, passer), passer) for passer in passers]
        return [pair for pair in found if pair[0] is not None] if self.history.lets_pass(at) else []

    def going_on(self):
        """For each moment all placements from which the rows behind can go on."""
        found = [{row: True for row in self.every}]
        for at in range(len(self.rows()) - 1, -1, -1):
            keys = {self.lots(at + 1, row): True for row in found[-1]}
            lot = {}
            for row in self.every:
                if any([self.lots(at + 1, behind) in keys for behind, _ in self.behind(at, row)]):
                    lot[row] = True
            found.append(lot)
        return found[::-1]

    def so_far(self, moment):
        """The placements to which the rows ahead lead, in order."""
        places = {area: at for at, area in enumerate(self.history.areas)}
        return sorted(list(self.forward.ends[moment]), key=lambda row: [places[area] for area in row])

    def placements(self, moment):
        """The placements of a moment, in order."""
        return [row for row in self.so_far(moment) if row in self.later[moment]]

    def areas(self, rows, person):
        """The areas of a person in some placements, in order."""
        there = {row[person]: True for row in rows}
        return tuple([area for area in self.history.areas if area in there])

    def backwards(self, moment, placement):
        """From a placement back: for each moment ahead of it, the latest first, (ended, passer, begun behind it)."""
        found = []
        row = placement
        for at in range(moment, 0, -1):
            begun = self.forward.ends[at][row]
            row, passer = self.forward.begins[at][begun]
            found.append((row, passer, begun))
        return found

    def onwards(self, moment, placement):
        """From a placement on: for each row behind it (who passes, begun behind it, ended in the next moment)."""
        found = []
        row = placement
        for at in range(moment, len(self.rows())):
            row = self.step(at, row, found)
        return found

    def step(self, at, placement, found):
        ends = {self.lots(at + 1, row): row for row in self.later[at + 1]}
        for begun, passer in self.behind(at, placement):
            key = self.lots(at + 1, begun)
            if key in ends:
                found.append((passer, begun, ends[key]))
                return ends[key]
        return None

    def course(self, moment, placement):
        """A course with this placement of a moment, which has one."""
        ended, begun, passers = [placement], [], []
        for row, passer, behind in self.backwards(moment, placement):
            ended.append(row)
            begun.append(behind)
            passers.append(passer)
        ended, begun, passers = ended[::-1], begun[::-1], passers[::-1]
        for passer, behind, row in self.onwards(moment, placement):
            ended.append(row)
            begun.append(behind)
            passers.append(passer)
        firsts = [(self.history.areas[0],) * self.many] + begun
        moves = [self.forward.moves(at, one, other) for at, (one, other) in enumerate(zip(firsts, ended))]
        return (moves, passers)


def check_person(log, person):
    if not is_between(person, 0, len(log[1]) - 1):
        raise BadPerson("this is no index of a person")


def placements(text, log, moment):
    """The placements of a moment of all courses."""
    tracks = Tracks(text, log)
    check_moment(log[3], moment)
    return tracks.placements(moment)


def may(text, log, person, moment):
    """The areas in which a person may be at a moment, by the whole log."""
    tracks = Tracks(text, log)
    check_person(log, person)
    check_moment(log[3], moment)
    return tracks.areas(tracks.placements(moment), person)


def may_so_far(text, log, person, moment):
    """The areas in which a person may be at a moment, by the log up to there."""
    tracks = Tracks(text, log)
    check_person(log, person)
    check_moment(log[3], moment)
    return tracks.areas(tracks.so_far(moment), person)


def is_placement(tracks, value):
    if type(value) is not tuple or len(value) != tracks.many:
        return False
    return all([is_among(area, tracks.history.areas) for area in value])


def course_with(text, log, moment, placement):
    """A course with a placement of a moment, None if there is none."""
    tracks = Tracks(text, log)
    check_moment(log[3], moment)
    if not is_placement(tracks, placement):
        raise BadPlacement("this is no area for each person")
    if placement not in tracks.forward.ends[moment] or placement not in tracks.later[moment]:
        return None
    return tracks.course(moment, placement)


def together(text, log, one, other, moment):
    """Whether two persons must be, may be or never are in one area at a moment."""
    tracks = Tracks(text, log)
    check_person(log, one)
    check_person(log, other)
    check_moment(log[3], moment)
    found = [row[one] == row[other] for row in tracks.placements(moment)]
    if all(found):
        return "must"
    return "may" if any(found) else "never"


def check_bar(text, log, person, moment, area):
    tracks = Tracks(text, log)
    check_person(log, person)
    check_moment(log[3], moment)
    check_area(text[1], area)
    return tracks


def bar(text, log, person, moment, area):
    """What shows that a person cannot be in an area at a moment, None if it may be there."""
    tracks = check_bar(text, log, person, moment, area)
    if area in tracks.areas(tracks.placements(moment), person):
        return None
    ahead = [tracks.so_far(at) for at in range(moment + 1)]
    return (ahead, [list(tracks.later[at]) for at in range(moment, len(log[3]) + 1)])


def are_sheets(tracks, value, many):
    """Whether a value is a list of so many lists of placements."""
    if not is_row(value) or len(value) != many or not all([is_row(sheet) for sheet in value]):
        return False
    return all([is_placement(tracks, row) for sheet in value for row in sheet])


def are_closed_ahead(tracks, sheets):
    """Whether all that comes of all outside, unseen and by rows, is on the sheets."""
    rows = [{one: True for one in sheet} for sheet in sheets]
    if (tracks.history.areas[0],) * tracks.many not in rows[0]:
        return False
    for at, row in enumerate(rows):
        keys = {tracks.lots(at, one): True for one in row}
        if not all([one in row for one in tracks.every if tracks.lots(at, one) in keys]):
            return False
        if at + 1 < len(rows):
            if not all([behind in rows[at + 1] for one in row for behind, _ in tracks.behind(at, one)]):
                return False
    return True


def are_closed_back(tracks, moment, sheets):
    """Whether all from which one can go on to the end is on the sheets."""
    rows = [{one: True for one in sheet} for sheet in sheets]
    if not all([row in rows[-1] for row in tracks.every]):
        return False
    for place in range(len(rows) - 1):
        at = moment + place
        keys = {tracks.lots(at + 1, row): True for row in rows[place + 1]}
        for row in tracks.every:
            if row not in rows[place] and any([tracks.lots(at + 1, one) in keys for one, _ in tracks.behind(at, row)]):
                return False
    return True


def is_bar(text, log, person, moment, area, value):
    """Whether a value shows that a person cannot be in an area at a moment."""
    tracks = check_bar(text, log, person, moment, area)
    if type(value) is not tuple or len(value) != 2 or not are_sheets(tracks, value[0], moment + 1):
        return False
    if not are_sheets(tracks, value[1], len(log[3]) + 1 - moment):
        return False
    if not are_closed_ahead(tracks, value[0]) or not are_closed_back(tracks, moment, value[1]):
        return False
    last = {row: True for row in value[0][-1]}
    return not any([row in last and row[person] == area for row in value[1][0]])
