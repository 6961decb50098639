"""A watch over a building: how long its alarms wait, and what is said and answered behind a signal."""
from housekept.alarms import check_watch, check_word, cut, quiet, ticked
from housekept.errors import BadSignal
from housekept.firstwalks import FirstWalks
from housekept.graphs import longest_row, longest_ticks, tick_ring
from housekept.machines import check_machine, is_world_signal
from housekept.storms import Waits, sleeper_lots
from housekept.warmth import TICK, check_others

PAIRS = 400


class Pairs:
    """The moves (signal or None, sleepers) of pairs (number of a standing, shortened standing of the watch)."""

    def __init__(self, machine, watch, others):
        self.machine = machine
        self.watch = watch
        self.others = others
        # For each pair and move, as they are met: the words that are said, those that are answered.
        self.facts = []

    def behind_signals(self, at, signal):
        """The standing behind a signal, or none, and a tick, and the words that are said."""
        said = ()
        if signal is not None:
            at, answer = self.machine.stepped(at, self.machine.places[signal])
            said = answer[1]
        at, answer = self.machine.stepped(at, self.machine.places[TICK])
        return at, tuple(sorted(set(said + answer[1])))

    def moves_told(self, moment):
        """The moves of a pair, all with what happens by them."""
        found, facts = [], []
        for signal in (None,) + self.others:
            at, words = self.behind_signals(moment[0], signal)
            for lot in sleeper_lots(self.watch, moment[1]):
                standing, answers, _ = ticked(self.watch, moment[1], words, lot)
                found.append(((signal, lot), (at, cut(self.watch, standing))))
                facts.append((words, [word for word, _, _ in answers]))
        self.facts.append(facts)
        return found


class Afterwards:
    """Behind a signal, how long it can be until something happens: the moves at which it does not are a graph."""

    def __init__(self, walks, facts, signal, part, word):
        self.walks = walks
        self.graph = []
        # The moves with the signal: (pair, label, next pair, whether it happens at once).
        self.firsts = []
        for at, steps in enumerate(walks.steps):
            happens = [word in fact[part] for fact in facts[at]]
            self.graph.append([(step[1], 1, step[0]) for step, now in zip(steps, happens) if not now])
            self.firsts.extend([(at, step[0], step[1], now) for step, now in zip(steps, happens)
                                if step[0][0] == signal])
        self.most = longest_ticks(self.graph)

    def ticks(self, first):
        """How many ticks it can be behind one of the moves with the signal, None without end."""
        _, _, behind, now = first
        if now:
            return 0
        return None if self.most[behind] is None else self.most[behind] + 1

    def longest(self):
        found = [self.ticks(first) for first in self.firsts]
        return None if None in found else max(found)

    def worst(self):
        """The labels of a walk on which it is longest; or to the signal, from there to a ring, and around it."""
        longest = self.longest()
        at, label, behind, now = [first for first in self.firsts if self.ticks(first) == longest][0]
        row = self.walks.row_to(at) + [label]
        if longest is None:
            lead, ring = tick_ring(self.graph, behind)
            return (row, lead, ring)
        if now:
            return row
        rest, end = longest_row(self.graph, self.most, behind)
        # There it happens by each move.
        return row + rest + [self.walks.steps[end][0][0]]


class Guarded:
    """A text whose words are alarms of a watch."""

    def __init__(self, machine, watch, others):
        check_machine(machine)
        check_watch(watch)
        check_others(machine, others)
        self.watch = watch
        self.others = others
        self.machine = machine
        pairs = Pairs(machine, watch, others)
        self.walks = FirstWalks((0, quiet(watch)), PAIRS, pairs)
        self.walks.explore()
        self.facts = pairs.facts

    def __len__(self):
        return len(self.walks.met)

    def is_opened(self, word):
        """Whether an alarm of a word is ever opened: where it is said the first time, at the latest."""
        return any([word in said for facts in self.facts for said, _ in facts])

    def longest(self, word):
        """The longest wait of an alarm of a word, None if it can be open for ever, -1 if none is ever opened."""
        check_word(self.watch, word)
        if not self.is_opened(word):
            return -1
        return Waits(self.walks, [standing for _, standing in self.walks.met], word).longest()

    def afterwards(self, signal, part, word):
        if not is_world_signal(self.machine, signal) or signal not in self.others:
            raise BadSignal("this is none of the others' signals")
        check_word(self.watch, word)
        return Afterwards(self.walks, self.facts, signal, part, word)

    def said(self, signal, word):
        """The greatest number of ticks from a signal to where a word is said, None if it may never be."""
        return self.afterwards(signal, 0, word).longest()

    def answered(self, signal, word):
        """The greatest number of ticks from a signal to an answer of a word, None if there may never be one."""
        return self.afterwards(signal, 1, word).longest()

    def worst(self, signal, word):
        """Moves from the beginning on which the answer comes latest, or a course, a lead and a ring without one."""
        return self.afterwards(signal, 1, word).worst()
