"""A person against all others: within how many turns it comes out, whatever they do."""
from housekept.buildings import check_kind, doors_of, inner_areas
from housekept.errors import BadArea, BadHinder, BadHindrance, BadTicks
from housekept.machines import check_machine, check_number, is_world_signal
from housekept.shapes import is_among, is_between, is_row

TICKS = 400


class Spots:
    """The spots of a person: pairs of a standing and an inner area, numbered; and its own deeds there.

    The spot of a standing and an area is the standing's number times the number of areas, and the area's.
    """

    def __init__(self, machine, kind):
        building = machine.text[1]
        self.machine = machine
        self.kind = kind
        self.areas = inner_areas(building)
        self.places = {area: at for at, area in enumerate(self.areas)}
        self.doors = doors_of(building)
        self.size = len(self.areas)
        self.many = len(machine) * self.size
        self.tick = machine.places[("tick",)]
        self.rows = [self.rows_at(area) for area in self.areas]

    def rows_at(self, area):
        """The deeds of a person in an area, in order: (label, signal's place, door that must be free, area behind)."""
        sides = [(at, door, side) for at, door in enumerate(self.doors) for side in (0, 1) if door[1 + side] == area]
        places = self.machine.places
        rows = [(("show", self.kind, door[0], side), places[("card", door[0], side, self.kind)], None, area)
                for _, door, side in sides]
        rows.extend([(("go", self.kind, door[0], side), places[("pass", door[0], side)], at, door[2 - side])
                     for at, door, side in sides])
        return rows

    def spot(self, at, area):
        return at * self.size + self.places[area]

    def own_deeds(self, spot):
        """The own deeds at a spot, in order: pairs (label, spot behind), None for outside."""
        at = spot // self.size
        nexts, doors = self.machine.nexts[at], self.machine.doors[at]
        found = []
        for label, place, door, area in self.rows[spot % self.size]:
            if door is None or doors[door] == "free":
                found.append((label, self.spot(nexts[place], area) if area in self.places else None))
        return found

    def behind_tick(self, spot):
        return self.machine.nexts[spot // self.size][self.tick] * self.size + spot % self.size


def others_nexts(machine):
    """For each standing those to which one signal of the others can lead, it itself too."""
    tick = machine.places[("tick",)]
    found = []
    for at, nexts in enumerate(machine.nexts):
        found.append(sorted(set([at] + nexts[:tick] + nexts[tick + 1:])))
    return found


def turned_round(lists, many):
    """For each number the list of those whose lists it is in."""
    found = [[] for _ in range(many)]
    for at, lot in enumerate(lists):
        for one in lot:
            found[one].append(at)
    return found


class Level:
    """The spots from which all that one signal more of the others can lead to is good."""

    def __init__(self, nexts, sources, size):
        self.sources = sources
        self.size = size
        self.missing = [len(lot) for lot in nexts for _ in range(size)]

    def take(self, fresh):
        """Of spots that have become good ahead of the signal those that are good with it now."""
        found = []
        for spot in fresh:
            area = spot % self.size
            for at in self.sources[spot // self.size]:
                back = at * self.size + area
                self.missing[back] -= 1
                if self.missing[back] == 0:
                    found.append(back)
        return found


class Outs:
    """For each spot within how many turns a person comes out: as it is to act, and ahead of the others.

    None stands for more than 400.
    """

    def __init__(self, machine, kind, hindrance):
        self.board = Spots(machine, kind)
        many = self.board.many
        self.acting = [None] * many
        self.waiting = [None] * many
        nexts = others_nexts(machine)
        sources = turned_round(nexts, len(machine))
        self.levels = [Level(nexts, sources, self.board.size) for _ in range(hindrance)]
        self.work_out()

    def work_out(self):
        """Turn by turn: who can act so as to be out, or to come out one turn sooner."""
        spots = self.board
        deeds = [spots.own_deeds(spot) for spot in range(spots.many)]
        back = turned_round([[behind for _, behind in rows if behind is not None] for rows in deeds], spots.many)
        ticked = turned_round([[spots.behind_tick(spot)] for spot in range(spots.many)], spots.many)
        fresh = [spot for spot, rows in enumerate(deeds) if None in [behind for _, behind in rows]]
        turn = 0
        while fresh and turn <= TICKS:
            acted = self.spread(fresh, back, turn)
            for level in self.levels:
                acted = level.take(acted)
            for spot in acted:
                self.waiting[spot] = turn
            fresh = [spot for one in acted for spot in ticked[one]]
            turn += 1

    def spread(self, fresh, back, turn):
        """The spots from which own deeds lead to fresh ones now."""
        found = []
        for spot in fresh:
            if self.acting[spot] is None:
                self.acting[spot] = turn
                found.append(spot)
        at = 0
        while at < len(found):
            sources = back[found[at]]
            for spot in sources:
                if self.acting[spot] is None:
                    self.acting[spot] = turn
                    found.append(spot)
            at += 1
        return found


def is_in_time(found, turns):
    """Whether a number of turns, None for one without end, is at most another one."""
    return found is not None and found <= turns


def check_play(machine, kind, hindrance):
    check_machine(machine)
    check_kind(machine.text[1], kind)
    if not is_between(hindrance, 0, 2):
        raise BadHindrance("this is no whole from 0 to 2")


def check_inner_spot(machine, at, area):
    check_number(machine, at)
    if not is_among(area, inner_areas(machine.text[1])):
        raise BadArea("this is no inner area")


def way_outs(machine, kind, hindrance):
    """For each standing and inner area within how many turns a person of a kind comes out from there."""
    check_play(machine, kind, hindrance)
    outs = Outs(machine, kind, hindrance)
    spots = outs.board
    return [{area: outs.waiting[spots.spot(at, area)] for area in spots.areas} for at in range(len(machine))]


def can_be_made(machine, at, signal):
    """Whether others can make a signal at a standing: no tick, a pass only at a door that stands free."""
    if signal[0] == "tick":
        return False
    return signal[0] != "pass" or machine.doors[at][machine.slots.doors.index(signal[1])] == "free"


def behind_hinder(machine, hindrance, at, row):
    """The standing behind a row of the others' signals."""
    if not is_row(row) or len(row) > hindrance:
        raise BadHinder("this is no list of so few signals")
    for signal in row:
        if not is_world_signal(machine, signal) or not can_be_made(machine, at, signal):
            raise BadHinder("the others cannot make this row")
        at = machine.nexts[at][machine.places[signal]]
    return at


def least_deeds(outs, first, turns):
    """The least row of own deeds from a spot to outside, or to where the person comes out so soon behind the tick."""
    spots = outs.board
    met = [first]
    rows = {first: []}
    at = 0
    while at < len(met):
        spot = met[at]
        if spot is None or is_in_time(outs.waiting[spots.behind_tick(spot)], turns):
            return rows[spot]
        for label, behind in spots.own_deeds(spot):
            if behind not in rows:
                rows[behind] = rows[spot] + [label]
                met.append(behind)
        at += 1
    return None


def deeds_out(machine, kind, hindrance, at, area, row):
    """The least row of own deeds behind the others' row, so as to come out in time; None where there is no time."""
    check_play(machine, kind, hindrance)
    check_inner_spot(machine, at, area)
    behind = behind_hinder(machine, hindrance, at, row)
    outs = Outs(machine, kind, hindrance)
    turns = outs.waiting[outs.board.spot(at, area)]
    if turns is None:
        return None
    return least_deeds(outs, outs.board.spot(behind, area), turns - 1)


def hinder(machine, kind, hindrance, at, area, t):
    """The least row of the others' signals by which a person does not come out within t, None if it does."""
    check_play(machine, kind, hindrance)
    check_inner_spot(machine, at, area)
    if not is_between(t, 0, TICKS):
        raise BadTicks("this is no whole from 0 to 400")
    outs = Outs(machine, kind, hindrance)
    met = [at]
    rows = {at: []}
    place = 0
    while place < len(met):
        here = met[place]
        if not is_in_time(outs.acting[outs.board.spot(here, area)], t):
            return rows[here]
        signals = machine.signals if len(rows[here]) < hindrance else []
        for signal in signals:
            behind = machine.nexts[here][machine.places[signal]]
            if can_be_made(machine, here, signal) and behind not in rows:
                rows[behind] = rows[here] + [signal]
                met.append(behind)
        place += 1
    return None
