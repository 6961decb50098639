"""Exchange: a new text takes over from an old one while the building runs."""
from housekept.crowds import Packing, are_at_most, check_household, greatest_number
from housekept.errors import BadNeeds, BadNumbers, BadPassage, UnlikeBuildings
from housekept.graphs import longest_ticks, tick_ring
from housekept.households import least_households, with_courses
from housekept.judging import check_question
from housekept.machines import Walk, check_machine
from housekept.promises import are_needs, crowds_filling
from housekept.rounds import test_of
from housekept.rules import check_standing, check_text, is_standing_of
from housekept.shapes import are_indexes
from housekept.tables import Closed, Rounds, sources_of
from housekept.webs import moves_of

STANDINGS = 1000
MOST = 1000
EXCHANGE = ("exchange",)


def check_new(old, new):
    """The scope of a new text of the same building as the old one's."""
    scope = check_text(new)
    if old[1] != new[1]:
        raise UnlikeBuildings("the texts have unlike buildings")
    return scope


def fixed_many(text):
    """How many of the variables of a text are those of its building: they stand first."""
    return len(text[1][2]) + len(text[1][1]) - 1


def named(rows, values):
    return {row[0]: value for row, value in zip(rows, values)}


def by_names(old, new, standing):
    """As carried, of what is known to be right."""
    many = fixed_many(old)
    values = named(old[2], standing[0][many:])
    timers = named(old[3], standing[1])
    counters = named(old[4], standing[2])
    owns = [values[name] if name in values and values[name] in worths else worths[0] for name, worths in new[2]]
    lefts = [timers.get(name, None) for name, _ in new[3]]
    lefts = [None if left is None else min(left, row[1]) for left, row in zip(lefts, new[3])]
    counts = [min(counters.get(name, 0), cap) for name, cap in new[4]]
    return (standing[0][:many] + tuple(owns), tuple(lefts), tuple(counts), standing[3])


def carried(old, new, standing):
    """The standing of the new text by names."""
    scope = check_text(old)
    check_new(old, new)
    check_standing(scope, standing)
    return by_names(old, new, standing)


def is_image(old_scope, new_scope, many, standing, image):
    """Whether a passage may lead from a standing to this one."""
    if not is_standing_of(old_scope, standing) or not is_standing_of(new_scope, image):
        return False
    return standing[0][:many] == image[0][:many] and standing[3] == image[3]


def is_passage_of(old_scope, new_scope, many, value):
    if type(value) is not dict:
        return False
    return all([is_image(old_scope, new_scope, many, standing, value[standing]) for standing in value])


def check_passage(old_scope, new_scope, many, passage):
    if not is_passage_of(old_scope, new_scope, many, passage):
        raise BadPassage("this is no passage from the old text to the new one")


def is_passage(old, new, value):
    """Whether a value is a dict from standings of the old text to such of the new one."""
    old_scope = check_text(old)
    new_scope = check_new(old, new)
    return is_passage_of(old_scope, new_scope, fixed_many(old), value)


def image_of(old, new, passage, standing):
    return passage[standing] if standing in passage else by_names(old, new, standing)


def goes_to(old, new, passage, standing):
    """The standing of the new text to which a passage leads."""
    old_scope = check_text(old)
    new_scope = check_new(old, new)
    check_passage(old_scope, new_scope, fixed_many(old), passage)
    check_standing(old_scope, standing)
    return image_of(old, new, passage, standing)


def check_exchange(machine, new, passage):
    """The errors of the parameters of an exchange; the scope of the new text."""
    check_machine(machine)
    new_scope = check_new(machine.text, new)
    check_passage(machine.slots.scope, new_scope, fixed_many(new), passage)
    return new_scope


class Exchange:
    """The machine of an old text, and behind it the standings of the new one that the exchange can bring about."""

    def __init__(self, machine, new, passage):
        self.machine = machine
        self.ahead = len(machine)
        images = [image_of(machine.text, new, passage, machine.slots.deep(flat)) for flat in machine.flats]
        self.met = Walk(new, machine.world, images, STANDINGS)
        self.met.walk()
        self.slots = self.met.program.slots
        # For each standing of the machine the place of its image.
        self.at = [self.ahead + self.met.numbers[self.slots.flat(image)] for image in images]
        building = machine.text[1]
        self.old_moves = moves_of(building, machine.signals, machine.nexts, machine.doors, 0)
        self.new_moves = moves_of(building, machine.signals, self.met.nexts, self.met.door_rows(), self.ahead)

    def with_exchange(self, at):
        """The moves of a standing of the machine, the exchange behind them."""
        return self.old_moves[at] + ((EXCHANGE, None, None, self.at[at]),)

    def whole_web(self):
        exchanging = [self.with_exchange(at) for at in range(self.ahead)]
        return ("web", (0,), tuple(exchanging) + tuple(self.new_moves))

    def web_at(self, at):
        """The web with the exchange at one standing alone."""
        moves = list(self.old_moves) + self.new_moves
        moves[at] = self.with_exchange(at)
        return ("web", (0,), tuple(moves))

    def standings(self):
        old = [self.machine.slots.deep(flat) for flat in self.machine.flats]
        return tuple(old + [self.slots.deep(flat) for flat in self.met.flats])


def exchange_web(machine, new, passage):
    """The web in which the old text can go over to the new one, the images' places, and all standings."""
    check_exchange(machine, new, passage)
    exchange = Exchange(machine, new, passage)
    return (exchange.whole_web(), tuple(exchange.at), exchange.standings())


def shifted_back(moves_by_place, first):
    """Moves whose places are counted from first on, with places counted from 0."""
    return [tuple([(label, need, there, place - first) for label, need, there, place in moves])
            for moves in moves_by_place]


class Harms:
    """For an exchange the least crowds from which a promise can be broken behind it.

    The tables of all webs with the exchange at one standing are the same behind it: that part is made once.
    """

    def __init__(self, exchange, question, needs):
        self.going = exchange
        self.building = exchange.machine.text[1]
        crowds = crowds_filling(self.building, needs)
        self.packing = Packing(self.building, greatest_number(crowds))
        self.old_sources = sources_of(exchange.old_moves)
        test = test_of(exchange.slots, question)
        sources = sources_of(shifted_back(exchange.new_moves, exchange.ahead))
        self.rest = Rounds(sources, self.packing, MOST)
        packed = self.rest.packed(crowds)
        seeds = {at: packed for at, flat in enumerate(exchange.met.flats) if test(flat, False)}
        self.rest.close([seeds], [0])
        self.found = {exchange.ahead + at: self.rest.entries[at] for at in self.rest.entries}

    def totals(self, whole):
        return tuple([sum(row) for row in self.packing.crowd(whole)])

    def seeds_at(self, at):
        """What the exchange at a standing brings there, round by round."""
        found = [{}]
        for entry in self.found[self.going.at[at]]:
            while len(found) < entry.born + 2:
                found.append({})
            lot = found[entry.born + 1].setdefault(at, {})
            lot[entry.whole] = self.totals(entry.whole)
        return found

    def harms_at(self, at):
        """Whether the promise can be broken at all behind the exchange at a standing."""
        return self.going.at[at] in self.found

    def closed_at(self, at):
        """The table of the web with the exchange at one standing alone."""
        rounds = Rounds(self.old_sources, self.packing, MOST)
        last = rounds.close(self.seeds_at(at), self.rest.counts)
        web = self.going.web_at(at)
        entries = {place: rounds.entries[place] for place in rounds.entries}
        entries.update(self.found)
        return Closed(self.building, web, self.packing, entries, last)


def check_harms(machine, new, passage, question, needs):
    new_scope = check_exchange(machine, new, passage)
    check_question(new_scope, question)
    if not are_needs(machine.text[1], needs):
        raise BadNeeds("this is no tuple of needs")


def bad_moments(machine, new, passage, question, needs):
    """For each standing of the machine the least households that an exchange there lets break the promise."""
    check_harms(machine, new, passage, question, needs)
    harms = Harms(Exchange(machine, new, passage), question, needs)
    return [with_courses(harms.closed_at(at)) if harms.harms_at(at) else [] for at in range(len(machine))]


def good(machine, new, passage, question, needs, household):
    """The standings at which an exchange harms no promise for a household; None: for no household."""
    check_harms(machine, new, passage, question, needs)
    if household is not None:
        check_household(machine.text[1], household)
    harms = Harms(Exchange(machine, new, passage), question, needs)
    found = []
    for at in range(len(machine)):
        lot = least_households(harms.closed_at(at)) if harms.harms_at(at) else []
        if not [less for less in lot if household is None or are_at_most(less, household)]:
            found.append(at)
    return tuple(found)


def graph_without(machine, some):
    """The moves of a machine that meet none of some standings, as a graph."""
    barred = {at: True for at in some}
    ticks = [1 if signal[0] == "tick" else 0 for signal in machine.signals]
    graph = []
    for at, nexts in enumerate(machine.nexts):
        graph.append([] if at in barred else [(behind, tick, signal) for behind, tick, signal
                                              in zip(nexts, ticks, machine.signals) if behind not in barred])
    return graph


def longest_waits(machine, some):
    """For each standing that is none of some: the greatest number of ticks along which none of some is met."""
    barred = {at: True for at in some}
    longest = longest_ticks(graph_without(machine, some))
    return [(at, ticks) for at, ticks in enumerate(longest) if at not in barred]


def check_some(machine, some):
    check_machine(machine)
    if type(some) is not tuple or not are_indexes(some, len(machine)):
        raise BadNumbers("this is no ascending tuple of standings")


def sure_wait(machine, some):
    """The least number of ticks by which every row meets one of some standings, None if there is none."""
    check_some(machine, some)
    waits = [ticks for _, ticks in longest_waits(machine, some)]
    if None in waits:
        return None
    return max(waits) + 1 if waits else 0


def no_wait(machine, some):
    """None if sure_wait is a number, otherwise a row and a ring along which none of some is ever met."""
    check_some(machine, some)
    for at, ticks in longest_waits(machine, some):
        if ticks is None:
            row, ring = tick_ring(graph_without(machine, some), at)
            return (at, row, ring)
    return None
