"""Walks with the fewest moves: moments as they are met, and the first of the shortest walks to each."""
from housekept.errors import TooMany
from housekept.graphs import labels_to


class FirstWalks:
    """The moments that come from a first one, numbered as they are met, fewest moves first.

    The guide tells the moves of a moment, in order: pairs (label, moment), None for one that is lost.
    """

    def __init__(self, first, most, guide):
        self.most = most
        self.guide = guide
        self.met = [first]
        self.numbers = {first: 0}
        self.parents = [None]
        # For each moment its moves: (label, number of the next moment, None for one that is lost).
        self.steps = []

    def number(self, moment, parent):
        if moment is None:
            return None
        if moment not in self.numbers:
            if len(self.met) == self.most:
                raise TooMany(self.most)
            self.numbers[moment] = len(self.met)
            self.met.append(moment)
            self.parents.append(parent)
        return self.numbers[moment]

    def explore(self):
        """Meet all moments."""
        while len(self.steps) < len(self.met):
            at = len(self.steps)
            moves = self.guide.moves_told(self.met[at])
            self.steps.append([(label, self.number(moment, (at, label))) for label, moment in moves])

    def first_lost(self):
        """The first of the shortest walks to a move that is lost, None if there is none: nothing behind it is met."""
        at = 0
        while at < len(self.met):
            for label, moment in self.guide.moves_told(self.met[at]):
                if moment is None:
                    return self.row_to(at) + [label]
                self.number(moment, (at, label))
            at += 1
        return None

    def row_to(self, at):
        """The labels of the first of the shortest walks to a moment."""
        return labels_to(self.parents, at)
