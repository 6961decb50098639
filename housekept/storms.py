"""Storms: how long alarms can wait, whatever words come and whoever sleeps."""
from housekept.alarms import are_sleepers, check_watch, check_word, cut, quiet, ticked
from housekept.firstwalks import FirstWalks
from housekept.graphs import longest_row, longest_ticks, tick_ring
from housekept.shapes import lots_below

STANDINGS = 300


def sleeper_lots(watch, standing):
    """All lots of guards who can sleep through the next tick."""
    return [lot for lot in lots_below(len(watch[2])) if are_sleepers(watch, standing, lot)]


class Ticks:
    """The ticks (words, sleepers) of the shortened standings of a watch."""

    def __init__(self, watch):
        self.watch = watch
        words = [row[0] for row in watch[1]]
        self.calls = [tuple([words[at] for at in lot]) for lot in lots_below(len(words))]

    def moves_told(self, moment):
        """The ticks of a standing."""
        found = []
        for lot in sleeper_lots(self.watch, moment):
            for words in self.calls:
                found.append(((words, lot), cut(self.watch, ticked(self.watch, moment, words, lot)[0])))
        return found


class Waits:
    """How long alarms of a word stay open along walks, standings being those of a watch at the moments met."""

    def __init__(self, walks, standings, word):
        self.walks = walks
        self.there = [word in [one for one, _ in standing[0]] for standing in standings]
        # The moves by which an open alarm of the word stays open, and those that open one that then is open.
        self.graph = []
        self.opening = []
        for at, steps in enumerate(walks.steps):
            staying = [(behind, 1, label) for label, behind in steps if self.there[behind]]
            self.graph.append(staying if self.there[at] else [])
            if not self.there[at]:
                self.opening.extend([(at, label, behind) for behind, _, label in staying])
        self.most = longest_ticks(self.graph)

    def longest(self):
        """The longest wait of an alarm that is not answered at once, 0 if there is none; None without end."""
        found = [self.most[behind] for _, _, behind in self.opening]
        if None in found:
            return None
        return max(found) + 1 if found else 0

    def opened(self, most):
        """The first move that opens an alarm which can stay open for so many ticks more, None without end."""
        return [row for row in self.opening if self.most[row[2]] == most][0]

    def row_to_longest(self, most):
        """The labels of a walk with the longest wait, up to the move that answers."""
        at, label, behind = self.opened(most - 1)
        row, end = longest_row(self.graph, self.most, behind)
        # From there no move leaves it open.
        return self.walks.row_to(at) + [label] + row + [self.walks.steps[end][0][0]]

    def rows_without_end(self):
        """The labels of a walk to a ring along which an alarm stays open, and along the ring."""
        at, label, behind = self.opened(None)
        row, ring = tick_ring(self.graph, behind)
        return self.walks.row_to(at) + [label] + row, ring


class Storm:
    """All that can come of a watch: its shortened standings."""

    def __init__(self, watch):
        check_watch(watch)
        self.watch = watch
        self.walks = FirstWalks(quiet(watch), STANDINGS, Ticks(watch))
        self.walks.explore()

    def __len__(self):
        return len(self.walks.met)

    def waits(self, word):
        check_word(self.watch, word)
        return Waits(self.walks, self.walks.met, word)

    def longest(self, word):
        """The longest wait of an alarm of a word, None if it can be open for ever."""
        return self.waits(word).longest()

    def course(self, word):
        """Ticks from quiet to an answer with the longest wait; or, without end, to a ring, and around it."""
        waits = self.waits(word)
        most = waits.longest()
        if most is None:
            return waits.rows_without_end()
        if most == 0:
            return [((word,), ())]
        return waits.row_to_longest(most)
