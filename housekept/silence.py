"""Silence: panels whose lines may read late, or never, or fall silent at any time, and what can break a promise then.

A control is a pair (numbers of the panels' standings, the panel that is down or None); a load is a crowd, and
for each line the letters behind the last one read.
"""
from housekept.courses import ahead_of, moved
from housekept.crowds import lies_within, outside_crowd, totals_of
from housekept.errors import TooMany
from housekept.joined import STAY, TICK, WebWalk, joint_of
from housekept.promises import crowds_filling
from housekept.rounds import test_of

MOST = 300
SILENT = "silent"
# Here letters are no matter of a net: any one would do.
NET = ("net", 0, None)


class System:
    """The panels and lines of a parted text under any silence: the moves of controls (numbers of standings, down)."""

    def __init__(self, text, parting, world, falls):
        self.joint = joint_of(text, parting, NET, world)
        self.falls = falls
        self.lines = self.joint.lines
        # For each panel its lines, for each line its reader and its place among the reader's lines.
        self.read_by = [[at for at, line in enumerate(self.lines) if line[1] == panel] for panel in range(parting[1])]
        self.places = [(line[1], self.read_by[line[1]].index(at)) for at, line in enumerate(self.lines)]
        self.letters = [() for _ in self.lines]
        self.heard = [{} for _ in self.lines]
        # For each tick from a control to another one what its panels' lines can do there.
        self.rows_between = {}
        self.walk = self.walked()
        while self.has_more():
            self.walk = self.walked()

    def walked(self):
        return WebWalk(((0,) * len(self.joint.panels), None), MOST, self)

    def has_more(self):
        """Whether letters have been sent that were not known yet; now they are."""
        known = self.letters
        self.letters = [tuple(sorted(lot)) for lot in self.heard]
        return self.letters != known

    def free_doors(self, control):
        return self.joint.free_doors((control[0],))

    def signalled(self, control, signal):
        """The control behind a signal that is no tick."""
        numbers, down = control
        if signal[0] == "stuck" and self.joint.stuck_doors(numbers) >= self.joint.world[4]:
            return control
        panel = self.joint.owner_of(signal)
        one = self.joint.panels[panel]
        behind = one.alone(numbers[panel], signal) if panel == down else one.behind(numbers[panel], signal, ())
        return (numbers[:panel] + (behind,) + numbers[panel + 1:], down)

    def safe_copies(self, at):
        names = self.lines[at][2]
        return tuple([(name, self.joint.safes[name]) for name in names])

    def risen(self, control):
        """The control behind the rise of the panel that is down: its lines fall silent."""
        numbers, panel = control
        copies = ()
        for at, line in enumerate(self.lines):
            if line[1] == panel:
                copies = copies + self.safe_copies(at)
        behind = self.joint.panels[panel].with_copies(numbers[panel], copies)
        return (numbers[:panel] + (behind,) + numbers[panel + 1:], None)

    def copies(self, at, choice):
        """What the reader of a line gets by a choice."""
        if choice == STAY:
            return ()
        return self.safe_copies(at) if choice == SILENT else tuple(list(zip(self.lines[at][2], choice)))

    def choices(self, at):
        """What a line may do at a tick, in order."""
        return [STAY, SILENT] + list(self.letters[at])

    def outcomes(self, control, panel):
        """By the numbers of the standings to which a tick can bring a panel: rows of choices of its lines, in order."""
        numbers, down = control
        if panel == down:
            return {numbers[panel]: [(STAY,) * len(self.read_by[panel])]}
        rows = [((), ())]
        for at in self.read_by[panel]:
            rows = [(row + (choice,), copies + self.copies(at, choice))
                    for row, copies in rows for choice in self.choices(at)]
        found = {}
        for row, copies in rows:
            behind = self.joint.panels[panel].behind(numbers[panel], TICK, copies)
            found.setdefault(behind, []).append(row)
        return found

    def by_lines(self, parts):
        """What is told panel by panel, for their lines, as one row of the lines."""
        return tuple([parts[panel][place] for panel, place in self.places])

    def order_of(self, row):
        """By what rows of choices are in order."""
        return [(0 if choice == STAY else 1, ()) if type(choice) is str else (2, choice) for choice in row]

    def ticks(self, control):
        """The controls to which ticks lead, in the order of the first rows of choices that lead there."""
        found = [((), ())]
        for panel in range(len(control[0])):
            lot = self.outcomes(control, panel)
            found = [(numbers + (behind,), rows + (lot[behind],)) for numbers, rows in found for behind in lot]
        # The choices of panels are free of one another: the first row of all has the first row of each.
        firsts = [(self.order_of(self.by_lines([row[0] for row in rows])), numbers, rows) for numbers, rows in found]
        return [((numbers, control[1]), rows) for _, numbers, rows in sorted(firsts, key=lambda one: one[0])]

    def patterns(self, control, behind):
        """What ticks from a control to another one must read, at the least: for each line a letter, or None."""
        found = [()]
        for rows in self.rows_between[(control, behind)]:
            reads = [tuple([choice if type(choice) is tuple else None for choice in row]) for row in rows]
            found = [parts + (read,) for parts in found for read in least_patterns(reads)]
        return [self.by_lines(parts) for parts in found]

    def behind_tick(self, control, row):
        """The control behind a tick with a row of choices."""
        numbers, down = control
        copies = [() for _ in numbers]
        for at, choice in enumerate(row):
            reader = self.lines[at][1]
            copies[reader] = copies[reader] + self.copies(at, choice)
        return (tuple([number if at == down else self.joint.panels[at].behind(number, TICK, copies[at])
                       for at, number in enumerate(numbers)]), down)

    def sent(self, at, control):
        """The letter that is sent on a line behind a tick that leads to a control, None if its owner is down."""
        owner, _, names = self.lines[at]
        if owner == control[1]:
            return None
        flat = self.joint.panels[owner].flats[control[0][owner]]
        return tuple([flat[name] for name in names])

    def hear(self, control):
        """Take in the letters that are sent behind a tick."""
        for at, lot in enumerate(self.heard):
            letter = self.sent(at, control)
            if letter is not None:
                lot[letter] = True

    def other_moves(self, control):
        """Signals that need nobody, falls and the rise."""
        found = [(signal, self.signalled(control, signal)) for signal in self.joint.signals
                 if signal[0] not in ("card", "pass")]
        if control[1] is not None:
            found.append((("rise", control[1]), self.risen(control)))
        elif self.falls == 1:
            found.extend([(("fall", panel), (control[0], panel)) for panel in range(len(control[0]))])
        return found

    def moves(self, control, number):
        """The moves of a control, a function giving the numbers of the next ones."""
        free = self.free_doors(control)
        found = [(label, need, there, number(self.signalled(control, signal)))
                 for label, need, there, signal, door in self.joint.persons if door is None or door in free]
        found.extend([(label, None, None, number(behind)) for label, behind in self.other_moves(control)])
        for behind, rows in self.ticks(control):
            self.hear(behind)
            self.rows_between[(control, behind)] = rows
            found.append((TICK, None, None, number(behind)))
        return found

    def plain(self, control):
        panels = self.joint.panels
        return (tuple([panel.standing(number) for panel, number in zip(panels, control[0])]), control[1])


def comes_of(word, other):
    """Whether a word comes of another one by leaving letters out."""
    at = 0
    for letter in other:
        if at < len(word) and word[at] == letter:
            at += 1
    return at == len(word)


def is_load_within(one, other):
    if not lies_within(one[0], other[0]):
        return False
    return all([comes_of(word, beside) for word, beside in zip(one[1], other[1])])


def size_of(load):
    return sum(totals_of(load[0])) + sum([len(word) for word in load[1]])


def least_patterns(patterns):
    """Those of some patterns that ask for no more letters than another one of them."""
    found = []
    for pattern in sorted(patterns, key=lambda row: len(row) - row.count(None)):
        if not any([all([one is None or one == letter for one, letter in zip(less, pattern)]) for less in found]):
            found.append(pattern)
    return found


class Sources:
    """For each control what leads to it: (control, move), or ticks (control, letters read by lines, letters sent)."""

    def __init__(self, system):
        self.building = system.joint.whole[1]
        self.met = system.walk.met
        self.moves = [{} for _ in self.met]
        self.reads = [[] for _ in self.met]
        self.sent = [[system.sent(line, control) for line in range(len(system.lines))] for control in self.met]
        for at, row in enumerate(system.walk.rows):
            for label, need, there, behind in row:
                if label == TICK:
                    self.reads[behind].extend([(at, read) for read in system.patterns(self.met[at], self.met[behind])])
                elif at != behind or need != there:
                    lot = self.moves[behind]
                    lot[(at, need, there)] = (label, need, there, behind)

    def word_ahead(self, word, letter, sent):
        """The least word of which a tick makes one that this comes of."""
        word = word[:-1] if word and word[-1] == sent else word
        return word if letter is None else (letter,) + word

    def before(self, control, load):
        """The pairs (control, load) from which one move leads to what has a load of a control within."""
        crowd, words = load
        found = [(key[0], (ahead_of(self.building, self.moves[control][key], crowd), words))
                 for key in self.moves[control]]
        for source, pattern in self.reads[control]:
            ahead = [self.word_ahead(word, letter, sent)
                     for word, letter, sent in zip(words, pattern, self.sent[control])]
            found.append((source, (crowd, tuple(ahead))))
        return found


class Bad:
    """The least loads of controls from which a promise can be broken, round by round."""

    def __init__(self, system, question, needs):
        self.system = system
        self.building = system.joint.whole[1]
        self.sources = Sources(system)
        self.seeds = self.seeds_of(question, needs)
        # For each control all loads in the order in which they were least, with the round; and those that still are.
        self.entries = [[] for _ in system.walk.met]
        self.living = [[] for _ in system.walk.met]

    def seeds_of(self, question, needs):
        """By controls the least loads that break the promise at once."""
        joint = self.system.joint
        test = test_of(joint.panels[0].program.slots, question)
        words = ((),) * len(self.system.lines)
        loads = [(crowd, words) for crowd in crowds_filling(self.building, needs)]
        return {at: loads for at, control in enumerate(self.system.walk.met) if test(joint.owned(control[0]), False)}

    def close(self):
        """Go back round by round until nothing is new."""
        fresh = self.taken({at: {seed: True for seed in self.seeds[at]} for at in self.seeds}, 0)
        number = 0
        while fresh:
            number += 1
            found = {}
            for control, load in fresh:
                for source, before in self.sources.before(control, load):
                    lot = found.setdefault(source, {})
                    lot[before] = True
            fresh = self.taken(found, number)

    def taken(self, found, number):
        """Take in the loads of a round: those that are new."""
        fresh = []
        for at in found:
            for load in sorted(list(found[at]), key=size_of):
                if not any([is_load_within(less, load) for less in self.living[at]]):
                    self.living[at] = [one for one in self.living[at] if not is_load_within(load, one)] + [load]
                    self.entries[at].append((load, number))
                    fresh.append((at, load))
        if sum([len(lot) for lot in self.living]) > MOST:
            raise TooMany(MOST)
        return fresh

    def left(self, at, load):
        """From a control and what is there how many moves are left at least, None if it cannot be broken."""
        for less, number in self.entries[at]:
            if is_load_within(less, load):
                return number
        return None

    def rest_behind(self, word, choice):
        """The letters behind the one that is read, the first of its kind."""
        return word[word.index(choice) + 1:] if type(choice) is tuple else word

    def tick_moves(self, at, words):
        """The ticks from a control where there are these words, in order: (label, control, words)."""
        control = self.system.walk.met[at]
        rows = [()]
        for line, word in enumerate(words):
            lot = [STAY, SILENT] + sorted(set(word))
            choices = [STAY] if self.system.lines[line][1] == control[1] else lot
            rows = [row + (choice,) for row in rows for choice in choices]
        found = []
        for row in rows:
            behind = self.system.walk.numbers[self.system.behind_tick(control, row)]
            rests = [self.rest_behind(word, choice) for word, choice in zip(words, row)]
            sent = self.sources.sent[behind]
            later = tuple([rest if letter is None else rest + (letter,) for rest, letter in zip(rests, sent)])
            found.append((TICK + (row,), behind, later))
        return found

    def going_on(self, at, load):
        """The moves from a control and what is there, in order: (label, control, load)."""
        crowd, words = load
        found = []
        for move in self.system.walk.rows[at]:
            behind = None if move[0] == TICK else moved(self.building, crowd, move)
            if behind is not None:
                found.append((move[0], move[3], (behind, words)))
        return found + [(label, behind, (crowd, later)) for label, behind, later in self.tick_moves(at, words)]

    def course(self, household):
        """The labels of a shortest course that breaks the promise, each of the first move that leaves one move less."""
        at, load = 0, (outside_crowd(self.building, household), ((),) * len(self.system.lines))
        labels = []
        for left in range(self.left(at, load) - 1, -1, -1):
            label, at, load = [move for move in self.going_on(at, load) if self.left(move[1], move[2]) == left][0]
            labels.append(label)
        return labels

    def households(self):
        """The least households that can break the promise, each with a course."""
        found = [totals_of(crowd) for crowd, words in self.living[0] if is_begun(crowd, words)]
        return [(household, self.course(household)) for household in sorted(found, key=lambda one: (sum(one), one))]


def is_begun(crowd, words):
    """Whether a load is one of the beginning: all are outside, nothing is to be read."""
    return not any([number > 0 for row in crowd for number in row[1:]]) and not any([len(word) > 0 for word in words])
