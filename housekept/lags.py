"""Lags: how late a parted building does what the whole text does."""
from housekept.errors import BadTicks
from housekept.firstwalks import FirstWalks
from housekept.graphs import longest_ticks, tick_ring
from housekept.joined import STANDINGS, TICK, Panel, check_joint, joint_of
from housekept.shapes import is_between

MOST = 6


class Twofold:
    """The whole text beside the joint building: both work off the same signals.

    A pair is the number of the whole's standing and a joint standing.
    """

    def __init__(self, text, parting, net, world):
        self.joint = joint_of(text, parting, net, world)
        self.whole = Panel(text)
        self.faults = world[4]

    def first(self):
        return (0, self.joint.beginning())

    def whole_doors(self, at):
        return self.whole.program.slots.stands(self.whole.flats[at])

    def is_alike(self, pair):
        """Whether all doors stand alike."""
        free = self.joint.free_doors(pair[1])
        names = self.joint.doors
        return free == [name for name, how in zip(names, self.whole_doors(pair[0])) if how == "free"]

    def signalled(self, at, signal):
        """The number of the whole's standing behind a signal."""
        slots = self.whole.program.slots
        flat = self.whole.flats[at]
        if signal[0] == "stuck" and len(slots.doors) - flat[slots.first_stuck:].count(None) >= self.faults:
            return at
        return self.whole.behind(at, signal, ())

    def signal_moves(self, pair):
        """The moves that are no ticks: (signal, pair)."""
        at, here = pair
        return [(signal, (self.signalled(at, signal), self.joint.signalled(here, signal)))
                for signal in self.joint.signals]

    def tick_moves(self, pair):
        """The ticks, in order: (label, pair)."""
        at, here = pair
        behind = self.whole.behind(at, TICK, ())
        choices = [self.joint.line_choices(lag) for lag in here[2]]
        return [(TICK + row, (behind, there)) for row, there in self.joint.ticks(here, choices)]

    def moves_told(self, pair):
        return self.signal_moves(pair) + self.tick_moves(pair)


class Steady:
    """The moves of triples: a pair, and for each door how the whole's stood at the last end, and at how many in a row.

    A tick is lost if a door that stood so for long enough stands otherwise in the joint building.
    """

    def __init__(self, twofold, k):
        self.twofold = twofold
        self.k = k

    def first(self):
        pair = self.twofold.first()
        return (pair, tuple([(how, 1) for how in self.twofold.whole_doors(pair[0])]))

    def ends_behind(self, ends, doors):
        most = self.k + 1
        return tuple([(how, min(many + 1, most) if how == ahead else 1) for (ahead, many), how in zip(ends, doors)])

    def is_kept(self, pair, ends):
        """Whether the doors that stood so for long enough stand so in the joint building."""
        free = self.twofold.joint.free_doors(pair[1])
        return all([many <= self.k or (how == "free") == (name in free)
                    for name, (how, many) in zip(self.twofold.joint.doors, ends)])

    def moves_told(self, triple):
        pair, ends = triple
        found = [(label, (behind, ends)) for label, behind in self.twofold.signal_moves(pair)]
        for label, behind in self.twofold.tick_moves(pair):
            later = self.ends_behind(ends, self.twofold.whole_doors(behind[0]))
            found.append((label, (behind, later) if self.is_kept(behind, later) else None))
        return found


def first_unlike(text, parting, net, world, k):
    """As parts_by, of what is known to be right."""
    steady = Steady(Twofold(text, parting, net, world), k)
    return FirstWalks(steady.first(), STANDINGS, steady).first_lost()


def parts_by(text, parting, net, world, k):
    """The least of the shortest rows by which the two are not alike by k, None if they are."""
    check_joint(text, parting, net, world)
    if not is_between(k, 0, MOST):
        raise BadTicks("this is no whole from 0 to 6")
    return first_unlike(text, parting, net, world, k)


def least_by(text, parting, net, world):
    """The least k by which the two are alike, None if there is none."""
    check_joint(text, parting, net, world)
    for k in range(MOST + 1):
        if first_unlike(text, parting, net, world, k) is None:
            return k
    return None


class Settling:
    """All pairs of standings, and for each the ticks by which others lead there: a graph that goes back."""

    def __init__(self, text, parting, net, world):
        twofold = Twofold(text, parting, net, world)
        self.walks = FirstWalks(twofold.first(), STANDINGS, twofold)
        self.walks.explore()
        self.unlike = [at for at, pair in enumerate(self.walks.met) if not twofold.is_alike(pair)]
        self.back = [[] for _ in self.walks.met]
        for at, steps in enumerate(self.walks.steps):
            sources = {}
            for label, behind in steps:
                if label[0] == "tick" and behind not in sources:
                    sources[behind] = label
            for behind in sources:
                self.back[behind].append((at, 1, (at, sources[behind])))
        self.longest = longest_ticks(self.back)

    def ticks(self):
        found = [self.longest[at] for at in self.unlike]
        if None in found:
            return None
        return max(found) + 1 if found else 0

    def triple(self):
        """A row, a ring of ticks where it ends, and ticks from there to unlike doors; None if there is none."""
        endless = [at for at in self.unlike if self.longest[at] is None]
        if not endless:
            return None
        back, ring = tick_ring(self.back, endless[0])
        node = back[-1][0] if back else endless[0]
        return (self.walks.row_to(node), [label for _, label in ring[::-1]], [label for _, label in back[::-1]])


def settles(text, parting, net, world):
    """Behind how many quiet ticks all doors are alike, None if behind no number of them."""
    check_joint(text, parting, net, world)
    return Settling(text, parting, net, world).ticks()


def unsettled(text, parting, net, world):
    """None if settles is a number, otherwise a row, a ring of ticks behind it, and ticks from there to unlike doors."""
    check_joint(text, parting, net, world)
    return Settling(text, parting, net, world).triple()
