"""The joint building: panels that work beside one another, and read of one another by letters."""
from housekept.buildings import door_names
from housekept.errors import BadLabels, BadNet, TooMany
from housekept.letters import check_net
from housekept.machines import Tails, check_world, is_in_world, world_signals
from housekept.panels import Owners, check_parting, lines_between, rule_panels, text_at
from housekept.rounds import Program
from housekept.rules import begin, check_text, is_signal_of, scope_of
from housekept.shapes import is_between, is_row
from housekept.webs import person_moves

STANDINGS = 1000
STAY = "stay"
TICK = ("tick",)


class Panel:
    """One panel's text, with numbers for its standings as they are met.

    Texts of unlike rules can share their numbers: those of a panel that goes over from one to the other.
    """

    def __init__(self, text, other=None):
        self.program = Program(text)
        self.tails = Tails(self.program)
        self.flats = [] if other is None else other.flats
        self.numbers = {} if other is None else other.numbers
        self.known = {}
        self.number(self.program.slots.flat(begin(text)))

    def number(self, flat):
        if flat not in self.numbers:
            self.numbers[flat] = len(self.flats)
            self.flats.append(flat)
        return self.numbers[flat]

    def behind(self, at, signal, copies):
        """The number of the standing behind a signal, copies being pairs (slot, value) that are read ahead of it."""
        key = (at, signal, copies)
        if key not in self.known:
            self.known[key] = self.number(self.worked_off(self.flats[at], signal, copies))
        return self.known[key]

    def worked_off(self, flat, signal, copies):
        cells = list(flat)
        for slot, worth in copies:
            cells[slot] = worth
        begun = self.program.alone(tuple(cells), signal)
        if begun is None:
            return flat
        now, told = begun
        told = told + self.program.changes(flat, tuple(cells))
        end = self.tails.tail(now, self.program.candidates(told), self.program.is_right(signal)).end
        return now if end is None else end

    def alone(self, at, signal):
        """The number of the standing behind what a signal is by itself, without rounds."""
        begun = self.program.alone(self.flats[at], signal)
        return at if begun is None else self.number(begun[0])

    def with_copies(self, at, copies):
        """The number of the standing with other copies, of which nothing is told."""
        cells = list(self.flats[at])
        for slot, worth in copies:
            cells[slot] = worth
        return self.number(tuple(cells))

    def stuck(self, at, door):
        return self.flats[at][self.program.slots.first_stuck + door] is not None

    def standing(self, at):
        return self.program.slots.deep(self.flats[at])


class Joint:
    """The panels and lines of a parted text in a net.

    Here a joint standing is a triple of tuples: the number of each panel's standing, the letters of
    each line, the lag of each line.
    """

    def __init__(self, text, parting, net, world, lines, panels):
        scope = scope_of(text)
        self.whole = text
        self.net = net
        self.world = world
        self.patience = parting[3]
        self.safes = parting[4]
        self.doors = door_names(text[1])
        self.signals = [signal for signal in world_signals(scope, world) if signal != TICK]
        self.persons = person_moves(text[1])
        self.owners = Owners(scope, parting)
        self.lines = lines
        self.panels = panels
        self.worths = {}
        # For each slot of a flat standing the panel that owns what stands there.
        self.holders = [self.owners.panels[("variable", name) if part == "stuck" else (part, name)]
                        for part, name in panels[0].program.slots.things]

    def beginning(self):
        values = begin(self.whole)[0]
        letters = [(tuple([values[name] for name in names]),) * (self.patience + 1) for _, _, names in self.lines]
        return ((0,) * len(self.panels), tuple(letters), (0,) * len(self.lines))

    def owner_of(self, signal):
        """The panel to which a signal goes that is no tick."""
        if signal[0] == "button":
            return self.owners.panels[signal]
        return self.owners.panels[("variable", "smoke:" + signal[1] if signal[0] == "smoke" else signal[1])]

    def door_owner(self, door):
        return self.owners.panels[("variable", door)]

    def stuck_doors(self, numbers):
        """How many doors are stuck, each as its owner has it."""
        return sum([1 for at, door in enumerate(self.doors)
                    if self.panels[self.door_owner(door)].stuck(numbers[self.door_owner(door)], at)])

    def free_doors(self, here):
        """The doors that stand free, each as its owner has it."""
        found = []
        for at, door in enumerate(self.doors):
            panel = self.panels[self.door_owner(door)]
            flat = panel.flats[here[0][self.door_owner(door)]]
            if panel.program.slots.stands(flat)[at] == "free":
                found.append(door)
        return found

    def signalled(self, here, signal):
        """The joint standing behind a signal that is no tick."""
        numbers, letters, lags = here
        if signal[0] == "stuck" and self.stuck_doors(numbers) >= self.world[4]:
            return here
        panel = self.owner_of(signal)
        behind = self.panels[panel].behind(numbers[panel], signal, ())
        return (numbers[:panel] + (behind,) + numbers[panel + 1:], letters, lags)

    def line_choices(self, lag):
        """What a line with a lag may do at a tick, in order."""
        _, late, lost = self.net
        newer = list(range(min(late + 1, lag)))
        return [STAY] + newer if lost is None or lag <= late + lost else newer

    def lag_read(self, lag, choice):
        return lag if choice == STAY else choice

    def next_lag(self, lag):
        """The lag at the next tick, if now a line is read with this one."""
        return min(lag + 1, self.patience + 1) if self.net[2] is None else lag + 1

    def copies_read(self, at, letters, lag):
        """The pairs (slot, value) that a line's reader gets: safe ones if the line is silent."""
        names = self.lines[at][2]
        values = [self.safes[name] for name in names] if lag > self.patience else letters[at][lag]
        return tuple([(name, worth) for name, worth in zip(names, values)])

    def line_steps(self, at, letters, lag, choices):
        """For some choices of a line: (choice, what its reader gets, the lag at the next tick)."""
        reads = [(choice, self.lag_read(lag, choice)) for choice in choices]
        return [(choice, self.copies_read(at, letters, read), self.next_lag(read)) for choice, read in reads]

    def ticks(self, here, choices):
        """For each row of choices, some being let for each line: (row, the joint standing behind the tick)."""
        numbers, letters, lags = here
        rows = [((), ((),) * len(numbers), ())]
        for at, lag in enumerate(lags):
            reader = self.lines[at][1]
            steps = self.line_steps(at, letters, lag, choices[at])
            rows = [(row + (choice,), copies[:reader] + (copies[reader] + read,) + copies[reader + 1:],
                     nexts + (behind,)) for row, copies, nexts in rows for choice, read, behind in steps]
        found = []
        sent = {}
        for row, copies, nexts in rows:
            behind = tuple([panel.behind(number, TICK, copy)
                            for panel, number, copy in zip(self.panels, numbers, copies)])
            if behind not in sent:
                sent[behind] = tuple([self.sent(at, behind, letters[at]) for at in range(len(letters))])
            found.append((row, (behind, sent[behind], nexts)))
        return found

    def ticked(self, here, row):
        """The joint standing behind a tick with a choice for each line."""
        return self.ticks(here, [[choice] for choice in row])[0][1]

    def sent(self, at, numbers, letters):
        """The letters of a line when its owner has sent one more."""
        owner, _, names = self.lines[at]
        key = (at, numbers[owner], letters)
        if key not in self.worths:
            flat = self.panels[owner].flats[numbers[owner]]
            self.worths[key] = (tuple([flat[name] for name in names]),) + letters[:-1]
        return self.worths[key]

    def owned(self, numbers):
        """The flat standing of what panels own, the numbers of their standings being these."""
        flats = [panel.flats[number] for panel, number in zip(self.panels, numbers)]
        return tuple([flats[holder][slot] for slot, holder in enumerate(self.holders)])

    def plain(self, here):
        """A joint standing as it is told."""
        numbers, letters, lags = here
        return (tuple([panel.standing(number) for panel, number in zip(self.panels, numbers)]), letters, lags)

    def moves(self, here, number):
        """The moves of a joint standing as those of a web, a function giving the numbers of the next ones."""
        free = self.free_doors(here)
        found = [(label, need, there, number(self.signalled(here, signal)))
                 for label, need, there, signal, door in self.persons if door is None or door in free]
        found.extend([(signal, None, None, number(self.signalled(here, signal)))
                      for signal in self.signals if signal[0] not in ("card", "pass")])
        choices = [self.line_choices(lag) for lag in here[2]]
        found.extend([(TICK + row, None, None, number(behind)) for row, behind in self.ticks(here, choices)])
        return found


def joint_of(text, parting, net, world):
    """The joint building of a text, NoPlace if a rule of it lies nowhere."""
    owners = Owners(scope_of(text), parting)
    where = rule_panels(owners, text, parting)
    panels = [Panel(text_at(text, where, panel)) for panel in range(parting[1])]
    return Joint(text, parting, net, world, lines_between(owners, text, where), panels)


class WebWalk:
    """The moments that come from a first one, numbered as they are met: a web of the moves that a guide tells."""

    def __init__(self, first, most, guide):
        self.most = most
        self.met = [first]
        self.numbers = {first: 0}
        self.rows = []
        while len(self.rows) < len(self.met):
            self.rows.append(tuple(guide.moves(self.met[len(self.rows)], self.number)))

    def number(self, here):
        if here not in self.numbers:
            if len(self.met) == self.most:
                raise TooMany(self.most)
            self.numbers[here] = len(self.met)
            self.met.append(here)
        return self.numbers[here]

    def web(self):
        return ("web", (0,), tuple(self.rows))


def check_joint(text, parting, net, world):
    """The errors of the parameters of a joint building."""
    scope = check_text(text)
    check_parting(scope, parting)
    check_net(net)
    if net[1] > parting[3]:
        raise BadNet("this net is later than the parting's patience")
    check_world(scope, world)
    return scope


def joint_web(text, parting, net, world):
    """The web of the joint building, and its joint standings."""
    check_joint(text, parting, net, world)
    joint = joint_of(text, parting, net, world)
    walk = WebWalk(joint.beginning(), STANDINGS, joint)
    return (walk.web(), tuple([joint.plain(here) for here in walk.met]))


def is_choice(joint, lag, value):
    if type(value) is str:
        return value == STAY and STAY in joint.line_choices(lag)
    return is_between(value, 0, lag) and value in joint.line_choices(lag)


def is_joint_move(joint, scope, lags, value):
    """Whether a value is a move where the lines have these lags."""
    if type(value) is tuple and len(value) == 1 + len(lags) and value[:1] == TICK:
        return all([is_choice(joint, lag, choice) for lag, choice in zip(lags, value[1:])])
    return is_signal_of(scope, value) and value != TICK and is_in_world(value, joint.world)


def lags_behind(joint, lags, label):
    if label[0] != "tick":
        return lags
    return tuple([joint.next_lag(joint.lag_read(lag, choice)) for lag, choice in zip(lags, label[1:])])


def joint_behind(text, parting, net, world, row):
    """The joint standings behind the moves of a row, one after the other."""
    scope = check_joint(text, parting, net, world)
    if not is_row(row):
        raise BadLabels(None)
    joint = joint_of(text, parting, net, world)
    here = joint.beginning()
    lags = here[2]
    # What is a move hangs on lags alone: so wrong labels come ahead of signals that are too long.
    for at, label in enumerate(row):
        if not is_joint_move(joint, scope, lags, label):
            raise BadLabels(at)
        lags = lags_behind(joint, lags, label)
    found = []
    for label in row:
        here = joint.ticked(here, label[1:]) if label[0] == "tick" else joint.signalled(here, label)
        found.append(joint.plain(here))
    return found
