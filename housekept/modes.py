"""A calendar's courses: what a text can come to when its buttons tell the modes of hours, year by year."""
from housekept.days import KINDS, is_date
from housekept.errors import BadButtons, BadJourney, BadWheel, TooMany
from housekept.judging import check_question, numbers_where
from housekept.machines import check_machine, is_world_signal
from housekept.shapes import are_unlike, is_among, is_between, is_row, is_tuple
from housekept.wheels import Years, check_wheel, kind_days, modes_of, plan_kind

CYCLE = 400
STANDINGS = 300
CHANGES = 10 ** 6


def bits_of(lot):
    """The numbers in a lot, which is a whole with a bit for each."""
    found = []
    while lot:
        low = lot & -lot
        found.append(low.bit_length() - 1)
        lot = lot ^ low
    return found


def first_of(lot):
    return (lot & -lot).bit_length() - 1


class Changes:
    """The changes of mode along the years, which come again after 400.

    For each kind of years: its first mode, and the changes (day, hour, mode) behind its first hour.
    """

    def __init__(self, wheel):
        years = Years(wheel)
        self.firsts = []
        self.rows = []
        for at, kind in enumerate(KINDS):
            plans = [(pair, years.plan_of(at, pair, weekday)) for pair, weekday in kind_days(kind)]
            self.firsts.append(plans[0][1][0][1])
            self.rows.append(self.changes_of(plans))
        self.kinds = [plan_kind(year) for year in range(1, CYCLE + 1)]
        # Whether the first hour of a year is a change, for each year of the 400.
        self.turns = [self.firsts[kind] != self.last(self.kinds[at - 1]) for at, kind in enumerate(self.kinds)]
        self.many = sum([len(self.rows[kind]) for kind in self.kinds]) + self.turns.count(True)

    def changes_of(self, plans):
        mode = plans[0][1][0][1]
        found = []
        for pair, plan in plans:
            for hour, name in plan:
                if name != mode:
                    found.append((pair, hour, name))
                    mode = name
        return found

    def last(self, kind):
        return self.rows[kind][-1][2] if self.rows[kind] else self.firsts[kind]

    def modes(self, kind):
        """The modes of a kind of years, one behind another."""
        return [self.firsts[kind]] + [mode for _, _, mode in self.rows[kind]]


class Pressed:
    """Where the buttons of modes lead, and all signals that are none of them, any number of these in a row."""

    def __init__(self, machine, buttons):
        self.machine = machine
        self.nexts = {mode: [row[machine.places[("button", buttons[mode])]] for row in machine.nexts]
                      for mode in buttons}
        barred = [("button", buttons[mode]) for mode in buttons]
        self.places = [at for at, signal in enumerate(machine.signals) if signal not in barred]
        self.edges = [self.edges_of(row) for row in machine.nexts]

    def edges_of(self, row):
        found = {}
        for place in self.places:
            found.setdefault(row[place], place)
        return [(behind, found[behind]) for behind in found]

    def parents_from(self, start):
        """The standings that free signals lead to from one, each with the one ahead and the signal's place."""
        parents = {start: None}
        order = [start]
        at = 0
        while at < len(order):
            here = order[at]
            for behind, place in self.edges[here]:
                if behind not in parents:
                    parents[behind] = (here, place)
                    order.append(behind)
            at += 1
        return parents

    def row_between(self, start, end):
        parents = self.parents_from(start)
        row = []
        while parents[end] is not None:
            end, place = parents[end]
            row.append(self.machine.signals[place])
        return row[::-1]


class Spread:
    """Lots of standings that can be behind the modes of a year, however the course began, this year or sooner."""

    def __init__(self, pressed, changes):
        self.pressed = pressed
        self.changes = changes
        lots = [self.lot_of(pressed.parents_from(at)) for at in range(len(pressed.edges))]
        self.jumps = {mode: [lots[behind] for behind in pressed.nexts[mode]] for mode in pressed.nexts}
        # For each mode the lot behind its button where a course begins with it.
        self.begun = {mode: self.jumps[mode][0] for mode in self.jumps}
        self.days = [self.days_of(rows) for rows in changes.rows]
        self.images = {}
        self.by_day = {}
        self.by_year = {}

    def lot_of(self, numbers):
        lot = 0
        for number in numbers:
            lot = lot | (1 << number)
        return lot

    def days_of(self, rows):
        """The modes of each day with changes."""
        found = {}
        for pair, _, mode in rows:
            found[pair] = found.get(pair, ()) + (mode,)
        return [found[pair] for pair in found]

    def image(self, mode, lot):
        """The lot behind a mode that comes, or with which a course begins."""
        if (mode, lot) not in self.images:
            found = self.begun[mode]
            jumps = self.jumps[mode]
            for number in bits_of(lot):
                found = found | jumps[number]
            self.images[(mode, lot)] = found
        return self.images[(mode, lot)]

    def behind_day(self, modes, lot):
        """The lot behind a day, and all that was met on it."""
        if (modes, lot) not in self.by_day:
            met = 0
            now = lot
            for mode in modes:
                now = self.image(mode, now)
                met = met | now
            self.by_day[(modes, lot)] = (now, met)
        return self.by_day[(modes, lot)]

    def at_first(self, kind, turns, lot):
        """The lot in the first hours of a year, a lot being there ahead of it."""
        mode = self.changes.firsts[kind]
        return self.image(mode, lot) if turns else lot | self.begun[mode]

    def behind_year(self, kind, turns, lot):
        key = (kind, turns, lot)
        if key not in self.by_year:
            now = self.at_first(kind, turns, lot)
            met = now
            for modes in self.days[kind]:
                now, more = self.behind_day(modes, now)
                met = met | more
            self.by_year[key] = (now, met)
        return self.by_year[key]

    def lots_along(self, kind, turns, lot):
        """The lots at all modes of a year."""
        found = [self.at_first(kind, turns, lot)]
        for _, _, mode in self.changes.rows[kind]:
            found.append(self.image(mode, found[-1]))
        return found


class Meeting:
    """Whether some course comes to one of some standings, which are a lot, and by which journey."""

    def __init__(self, pressed, changes, goal):
        self.pressed = pressed
        self.changes = changes
        self.spread = Spread(pressed, changes)
        self.goal = goal
        # For each year of the 400 the lot that can be there ahead of it; for each of its standings the lot of the
        # year ahead from which it was met first.
        self.lots = [0] * CYCLE
        self.sources = {}

    def first_met(self):
        """The year of the 400 and the lot ahead of it from which the goal is met, None if it never is."""
        waiting = list(range(CYCLE))
        while waiting:
            later = {}
            for at in waiting:
                kind, turns, lot = self.changes.kinds[at], self.changes.turns[at], self.lots[at]
                end, met = self.spread.behind_year(kind, turns, lot)
                if met & self.goal:
                    return (at, lot)
                after = (at + 1) % CYCLE
                for number in bits_of(end & ~self.lots[after]):
                    self.sources[(after, number)] = lot
                    later[after] = True
                self.lots[after] = self.lots[after] | end
            waiting = sorted(later)
        return None

    def journey(self):
        """A journey to the goal, None if there is none: it is found from its end."""
        found = self.first_met()
        if found is None:
            return None
        year, lot = found
        lots = self.lots_of(year, lot)
        place = [at for at, one in enumerate(lots) if one & self.goal][0]
        here = first_of(lots[place] & self.goal)
        rows = []
        while here is not None:
            modes = self.changes.modes(self.changes.kinds[year])
            # At the first hour of a year nothing need come: the mode is that of the year ahead.
            if place == 0 and not self.changes.turns[year] and not self.spread.begun[modes[0]] >> here & 1:
                source = here
            else:
                source, row = self.source_of(modes[place], here, lots[place - 1] if place > 0 else lot)
                rows.append(row)
            start = (year, place)
            if source is not None and place == 0:
                lot = self.sources[(year, source)]
                year = (year - 1) % CYCLE
                lots = self.lots_of(year, lot)
                place = len(lots)
            place -= 1
            here = source
        return self.told(start, rows[::-1])

    def lots_of(self, year, lot):
        return self.spread.lots_along(self.changes.kinds[year], self.changes.turns[year], lot)

    def source_of(self, mode, here, lot):
        """The standing ahead of a mode's button, None where a course begins; and the signals behind the button."""
        nexts = self.pressed.nexts[mode]
        if self.spread.begun[mode] >> here & 1:
            return None, self.pressed.row_between(nexts[0], here)
        numbers = bits_of(lot)
        direct = [number for number in numbers if nexts[number] == here]
        source = (direct + [number for number in numbers if self.spread.jumps[mode][number] >> here & 1])[0]
        return source, self.pressed.row_between(nexts[source], here)

    def told(self, start, rows):
        """The journey that begins at a place of a year, with the signals behind each mode's button."""
        year, place = start
        kind = self.changes.kinds[year]
        pair, hour = ((1, 1), 0) if place == 0 else self.changes.rows[kind][place - 1][:2]
        parts = [(0, rows[0])]
        changes = 0
        for row in rows[1:]:
            changes += 1
            if row or changes == CHANGES:
                parts.append((changes, row))
                changes = 0
        if changes > 0:
            parts.append((changes, []))
        return ((year + 1,) + pair, hour, parts)


class Travel:
    """The standing along a journey: whole years, and whole turns of 400 years, are gone through at once."""

    def __init__(self, pressed, changes, date, hour):
        self.pressed = pressed
        self.changes = changes
        self.by_year = {}
        self.by_turn = {}
        self.year = (date[0] - 1) % CYCLE
        self.kind = changes.kinds[self.year]
        self.done = len([1 for pair, begin, _ in changes.rows[self.kind] if (pair, begin) <= (date[1:], hour)])
        self.here = pressed.nexts[changes.modes(self.kind)[self.done]][0]

    def press(self, rows):
        for _, _, mode in rows:
            self.here = self.pressed.nexts[mode][self.here]

    def go_year(self):
        """Go through all changes of this year, none of which has come."""
        key = (self.kind, self.here)
        if key not in self.by_year:
            self.press(self.changes.rows[self.kind])
            self.by_year[key] = self.here
        self.here = self.by_year[key]

    def next_year(self):
        """Come into the next year: how many changes that is."""
        self.year = (self.year + 1) % CYCLE
        self.kind = self.changes.kinds[self.year]
        self.done = 0
        if not self.changes.turns[self.year]:
            return 0
        self.here = self.pressed.nexts[self.changes.firsts[self.kind]][self.here]
        return 1

    def go_turn(self):
        """Go through 400 years, from the first hour of one on."""
        if self.here not in self.by_turn:
            first = self.here
            for _ in range(CYCLE):
                self.go_year()
                self.next_year()
            self.by_turn[first] = self.here
        else:
            self.here = self.by_turn[self.here]

    def go(self, many):
        """Let so many changes come."""
        rows = self.changes.rows[self.kind]
        while many > len(rows) - self.done:
            if self.year == 0 and self.done == 0 and many > self.changes.many:
                self.go_turn()
                many -= self.changes.many
            else:
                many -= len(rows) - self.done
                if self.done == 0:
                    self.go_year()
                else:
                    self.press(rows[self.done:])
                many -= self.next_year()
                rows = self.changes.rows[self.kind]
        self.press(rows[self.done:self.done + many])
        self.done += many

    def signal(self, signal):
        self.here = self.pressed.machine.nexts[self.here][self.pressed.machine.places[signal]]


def check_modes(machine, wheel, buttons):
    check_machine(machine)
    check_wheel(wheel)
    if wheel[3]:
        raise BadWheel("this wheel has dates")
    modes = modes_of(wheel)
    if type(buttons) is not dict or len(buttons) != len(modes) or not all([is_among(mode, modes) for mode in buttons]):
        raise BadButtons("this is no dict from the modes of the wheel")
    lot = [buttons[mode] for mode in buttons]
    if not all([is_between(button, 0, 5) and button in machine.world[2] for button in lot]) or not are_unlike(lot):
        raise BadButtons("these are no unlike buttons of the world")


def calendar_meets(machine, wheel, buttons, question):
    """A journey to a standing at which a question holds, None if no course of the calendar leads to one."""
    check_modes(machine, wheel, buttons)
    check_question(machine.slots.scope, question)
    if len(machine) > STANDINGS:
        raise TooMany(STANDINGS)
    goal = 0
    for number in numbers_where(machine, question):
        goal = goal | (1 << number)
    return Meeting(Pressed(machine, buttons), Changes(wheel), goal).journey()


def is_part(machine, buttons, changes, value):
    """Whether a value is a pair of a number of changes that come and a row of free signals."""
    if not is_tuple(value, 2, 2) or not is_between(value[0], 0, CHANGES if changes.many > 0 else 0):
        return False
    barred = [("button", buttons[mode]) for mode in buttons]
    return is_row(value[1]) and all([is_world_signal(machine, one) and one not in barred for one in value[1]])


def check_journey(machine, buttons, changes, journey):
    if not is_tuple(journey, 3, 3) or not is_date(journey[0]) or not is_between(journey[1], 0, 23):
        raise BadJourney("this is no triple of a date, an hour and parts")
    if not is_row(journey[2]) or len(journey[2]) == 0:
        raise BadJourney("these are no parts")
    if not all([is_part(machine, buttons, changes, part) for part in journey[2]]):
        raise BadJourney("this is no part")


def journey_end(machine, wheel, buttons, journey):
    """The number of the standing to which a journey leads."""
    check_modes(machine, wheel, buttons)
    changes = Changes(wheel)
    check_journey(machine, buttons, changes, journey)
    date, hour, parts = journey
    travel = Travel(Pressed(machine, buttons), changes, date, hour)
    for many, row in parts:
        travel.go(many)
        for signal in row:
            travel.signal(signal)
    return travel.here
