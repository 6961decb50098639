"""Rolling: panels that go over to new rules one behind the other, while the building runs."""
from itertools import permutations
from housekept.errors import BadNeeds, BadOrder, UnlikeTexts
from housekept.households import least_households
from housekept.joined import STANDINGS, Joint, Panel, WebWalk, check_joint
from housekept.judging import check_question
from housekept.panels import Owners, lines_between, rule_panels, text_at
from housekept.promises import are_needs, crowds_filling
from housekept.rounds import test_of
from housekept.rules import check_text, scope_of
from housekept.shapes import are_wholes, lots_below
from housekept.tables import Table

MOST = 1000
OVER = ("over",)


def lines_together(lines, others):
    """The lines of two texts put together."""
    read = {}
    for owner, reader, names in lines + others:
        lot = read.setdefault((owner, reader), {})
        for name in names:
            lot[name] = True
    return tuple([(owner, reader, tuple(sorted(read[(owner, reader)]))) for owner, reader in sorted(read)])


class Going:
    """The panels of two texts that differ in rules: each by old rules and by new ones, with the same standings."""

    def __init__(self, old, new, parting, net, world):
        owners = Owners(scope_of(old), parting)
        before, after = rule_panels(owners, old, parting), rule_panels(owners, new, parting)
        self.parts = (old, parting, net, world)
        self.lines = lines_together(lines_between(owners, old, before), lines_between(owners, new, after))
        self.olds = [Panel(text_at(old, before, panel)) for panel in range(parting[1])]
        self.news = [Panel(text_at(new, after, panel), self.olds[panel]) for panel in range(parting[1])]

    def joint(self, lot):
        """The joint building in which a lot of panels works by the new rules."""
        old, parting, net, world = self.parts
        panels = [self.news[at] if at in lot else self.olds[at] for at in range(len(self.olds))]
        return Joint(old, parting, net, world, self.lines, panels)


class Rolled:
    """The moves of pairs: how many panels of an order have gone over, and a joint standing."""

    def __init__(self, going, order):
        self.stages = [going.joint(order[:many]) for many in range(len(order) + 1)]

    def first(self):
        return (0, self.stages[0].beginning())

    def moves(self, pair, number):
        """The moves of a pair as those of a web, a function giving the numbers of the next ones."""
        many, here = pair
        joint = self.stages[many]
        found = joint.moves(here, lambda behind: number((many, behind)))
        if many + 1 < len(self.stages):
            found.append((OVER, None, None, number((many + 1, here))))
        return found

    def plain(self, pair):
        joint = self.stages[pair[0]]
        return (pair[0], joint.plain(pair[1]))


def check_going(old, new, parting, net, world):
    scope = check_text(old)
    check_text(new)
    if old[:5] != new[:5]:
        raise UnlikeTexts("the texts differ in more than rules")
    check_joint(old, parting, net, world)
    return scope


def rolling_web(old, new, parting, net, world, order):
    """The web in which the panels of an order go over one behind the other, and its standings."""
    check_going(old, new, parting, net, world)
    many = parting[1]
    if type(order) is not tuple or not are_wholes(order, 0, many - 1) or sorted(order) != list(range(many)):
        raise BadOrder("this is no tuple of all panels")
    rolled = Rolled(Going(old, new, parting, net, world), order)
    walk = WebWalk(rolled.first(), STANDINGS, rolled)
    return (walk.web(), tuple([rolled.plain(pair) for pair in walk.met]))


def check_asked(scope, building, question, needs):
    """The errors of a promise that is told by a question and needs."""
    check_question(scope, question)
    if not are_needs(building, needs):
        raise BadNeeds("this is no tuple of needs")


def is_kept(building, walk, flats, test, needs):
    """Whether a promise holds for every household in a web, flats being the owned standings of its places."""
    filling = tuple(crowds_filling(building, needs))
    loads = tuple([filling if test(flat, False) else () for flat in flats])
    return least_households(Table(building, walk.web(), loads, MOST).closed) == []


def asked_going(old, new, parting, net, world, question, needs):
    """The panels of two texts, all parameters being right."""
    scope = check_going(old, new, parting, net, world)
    check_asked(scope, old[1], question, needs)
    return Going(old, new, parting, net, world)


def safe_orders(old, new, parting, net, world, question, needs):
    """The orders in which panels can go over without breaking a promise, whoever is there."""
    going = asked_going(old, new, parting, net, world, question, needs)
    test = test_of(going.olds[0].program.slots, question)
    found = []
    for order in permutations(range(parting[1])):
        rolled = Rolled(going, order)
        walk = WebWalk(rolled.first(), STANDINGS, rolled)
        flats = [rolled.stages[many].owned(here[0]) for many, here in walk.met]
        if is_kept(old[1], walk, flats, test, needs):
            found.append(order)
    return found


def bad_mixtures(old, new, parting, net, world, question, needs):
    """The lots of panels with whose new rules, the others having the old ones, a promise can be broken."""
    going = asked_going(old, new, parting, net, world, question, needs)
    test = test_of(going.olds[0].program.slots, question)
    found = []
    for lot in sorted(lots_below(parting[1])):
        joint = going.joint(lot)
        walk = WebWalk(joint.beginning(), STANDINGS, joint)
        flats = [joint.owned(here[0]) for here in walk.met]
        if not is_kept(old[1], walk, flats, test, needs):
            found.append(lot)
    return found
