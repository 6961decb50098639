"""Tables: for each place the least crowds from which loads can be met, round by round."""
from housekept.buildings import check_building
from housekept.courses import check_building_web, check_place, moved
from housekept.crowds import Lowest, Packing, check_crowd, greatest_number, totals_of
from housekept.errors import BadRound, BadTable, TooMany
from housekept.promises import check_loads, check_most
from housekept.shapes import is_from


class Entry:
    """A crowd, packed, that is least at a place from the round born until the round died, None if for ever."""

    def __init__(self, whole, born):
        self.whole = whole
        self.born = born
        self.died = None


def effects_of(place, moves):
    """What moves of a place do, each once: (need, there, next place)."""
    found = {}
    for _, need, there, behind in moves:
        # Where a move stays, and nobody goes, no crowd less than the one behind it leads on.
        if behind != place or need != there:
            found[(need, there, behind)] = True
    return list(found)


def sources_of(moves_by_place):
    """For each place the moves that lead to it: (place, need, there)."""
    found = [[] for _ in moves_by_place]
    for place, moves in enumerate(moves_by_place):
        for need, there, behind in effects_of(place, moves):
            found[behind].append((place, need, there))
    return found


class Rounds:
    """The rounds of a table: each goes back along the moves from what was new in the one ahead."""

    def __init__(self, sources, packing, most):
        self.packing = packing
        self.most = most
        self.many = 0
        self.counts = []
        self.sources = sources
        # By places, for those that have come: all entries in the order in which they were born, the living ones
        # by their crowds, and what is needed to compare these.
        self.entries = {}
        self.living = {}
        self.lowest = {}

    def before(self, fresh):
        """For each place the crowds from which moves lead to the fresh ones, with their totals."""
        found = {}
        for place, whole, totals in fresh:
            for source, need, there in self.sources[place]:
                back = self.back(whole, totals, need, there)
                # At one place the crowd itself is within one that has somebody more.
                if source != place or back[1] == totals:
                    met = found.setdefault(source, {})
                    met[back[0]] = back[1]
        return found

    def back(self, whole, totals, need, there):
        """The least crowd from which a move leads to one with this crowd within it."""
        if need is None:
            return (whole, totals)
        behind = self.packing.shifts[there]
        back = whole + (1 << self.packing.shifts[need])
        if whole >> behind & self.packing.field:
            return (back - (1 << behind), totals)
        at = self.packing.kinds.index(need[0])
        return (back, totals[:at] + (totals[at] + 1,) + totals[at + 1:])

    def take(self, found, born):
        """Take crowds in as those of a round; the triples (place, crowd, totals) that are new."""
        fresh = []
        for place in sorted(found):
            rows = sorted([(sum(found[place][whole]), whole) for whole in found[place]])
            for _, whole in rows:
                totals = found[place][whole]
                if place not in self.lowest:
                    self.lowest[place] = Lowest(self.packing.guards)
                    self.living[place] = {}
                    self.entries[place] = []
                if not self.lowest[place].lies_above(whole, totals):
                    self.put(place, whole, totals, born)
                    fresh.append((place, whole, totals))
        return fresh

    def put(self, place, whole, totals, born):
        living = self.living[place]
        gone = self.lowest[place].put(whole, totals)
        for one in gone:
            entry = living[one]
            entry.died = born
        living[whole] = Entry(whole, born)
        self.entries[place].append(living[whole])
        self.many += 1 - len(gone)

    def packed(self, crowds):
        """Crowds as wholes, each with how many persons of each kind it has."""
        return {self.packing.packed(crowd): totals_of(crowd) for crowd in crowds}

    def close(self, seeds, elsewhere):
        """Go through all rounds; the number of the last one in which something is new.

        seeds: for each of the first rounds, by places, crowds that are taken in there, whatever moves lead to
        them. elsewhere: how many least crowds other places have in the first rounds, the last number staying.
        """
        fresh = []
        last, number = 0, 0
        while fresh or number < max(len(seeds), len(elsewhere)):
            found = self.before(fresh)
            if number < len(seeds):
                for place in seeds[number]:
                    found.setdefault(place, {}).update(seeds[number][place])
            fresh = self.take(found, number)
            self.counts.append(self.many)
            if self.many + elsewhere[min(number, len(elsewhere) - 1)] > self.most:
                raise TooMany(self.most)
            if fresh:
                last = number
            number += 1
        return last


class Closed:
    """For each place of a web the least crowds from which loads can be met, with the rounds in which they are least."""

    def __init__(self, building, web, packing, entries, rounds):
        self.building = building
        self.web = web
        self.packing = packing
        self.entries = entries
        self.rounds = rounds

    def least_at(self, place, k):
        wholes = [entry.whole for entry in self.entries.get(place, [])
                  if entry.born <= k and (entry.died is None or entry.died > k)]
        return [self.packing.crowd(whole) for whole in sorted(wholes)]

    def left_of(self, place, crowd):
        """How many moves are left, at least; None without end: entries stand in the order in which they were born."""
        guards = self.packing.guards
        top = self.packing.packed(crowd) | guards
        for entry in self.entries.get(place, []):
            if (top - entry.whole) & guards == guards:
                return entry.born
        return None

    def move_from(self, place, crowd):
        """The first move that leaves one move less, and the crowd behind it; None if there is none."""
        many = self.left_of(place, crowd)
        if many is None or many == 0:
            return None
        for move in self.web[2][place]:
            behind = moved(self.building, crowd, move)
            if behind is not None and self.left_of(move[3], behind) == many - 1:
                return (move, behind)
        return None

    def moves_from(self, place, crowd):
        """The least list of moves to where the loads are met, None if there is none."""
        if self.left_of(place, crowd) is None:
            return None
        moves = []
        found = self.move_from(place, crowd)
        while found is not None:
            move, crowd = found
            moves.append(move)
            found = self.move_from(move[3], crowd)
        return moves


class Table:
    """The least crowds from which loads can be met in so many moves, for all places of a web."""

    def __init__(self, building, web, loads, most):
        check_building(building)
        check_building_web(building, web)
        check_loads(building, web, loads)
        check_most(most)
        packing = Packing(building, greatest_number([crowd for crowds in loads for crowd in crowds]))
        closing = Rounds(sources_of(web[2]), packing, most)
        seeds = {place: closing.packed(crowds) for place, crowds in enumerate(loads)}
        rounds = closing.close([seeds], [0])
        self.building = building
        self.web = web
        self.loads = loads
        self.rounds = rounds
        self.closed = Closed(building, web, packing, closing.entries, rounds)

    def least(self, place, k):
        """The least crowds of a place from which at most k moves are needed."""
        check_place(self.web, place)
        if not is_from(k, 0):
            raise BadRound("this is no number of a round")
        return self.closed.least_at(place, k)

    def paper(self):
        """The least crowds of all places from which the loads can be met at all."""
        return tuple([tuple(self.closed.least_at(place, self.rounds)) for place in range(len(self.web[2]))])

    def left(self, place, crowd):
        """How many moves are left, at least, until the loads are met; None if they never are."""
        check_place(self.web, place)
        check_crowd(self.building, crowd)
        return self.closed.left_of(place, crowd)

    def next_move(self, place, crowd):
        """The first move of a place that leaves one move less, None where none is left."""
        check_place(self.web, place)
        check_crowd(self.building, crowd)
        found = self.closed.move_from(place, crowd)
        return None if found is None else found[0]

    def moves_left(self, place, crowd):
        """The least list of moves to where the loads are met, None if there is none."""
        check_place(self.web, place)
        check_crowd(self.building, crowd)
        return self.closed.moves_from(place, crowd)


def check_table(table):
    if not isinstance(table, Table):
        raise BadTable("this is no table")
