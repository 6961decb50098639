"""Panels: which rules of a text lie where, and what panels read of one another."""
from housekept.errors import BadPanel, BadParting, NoPlace
from housekept.meaning import with_rules
from housekept.reasons import condition_things
from housekept.rules import check_text, thing_of
from housekept.shapes import are_wholes, is_among, is_between, is_tuple

MUTE = (("button", 0), ("not", ("always",)), ())


class Owners:
    """The panels of a text's variables, timers, counters and buttons."""

    def __init__(self, scope, parting):
        self.doors = scope.doors
        self.smokes = tuple(["smoke:" + area for area in scope.inner])
        self.names = list(scope.worths)
        self.panels = {}
        things = [("variable", name) for name in scope.worths]
        things.extend([("timer", name) for name in scope.timers])
        things.extend([("counter", name) for name in scope.counters])
        things.extend([("button", button) for button in range(6)])
        for thing, panel in zip(things, parting[2]):
            self.panels[thing] = panel

    def all_of(self, names):
        """The panels that own all of these variables: one or none."""
        found = sorted(set([self.panels[("variable", name)] for name in names]))
        return found if len(found) == 1 else []


def is_parting_of(scope, value):
    if not is_tuple(value, 5, 5) or value[0] != "parting" or not is_between(value[1], 2, 3):
        return False
    many = len(scope.worths) + len(scope.timers) + len(scope.counters) + 6
    if not is_tuple(value[2], many, many) or not are_wholes(value[2], 0, value[1] - 1):
        return False
    if not is_between(value[3], 0, 3) or not is_tuple(value[4], len(scope.worths), len(scope.worths)):
        return False
    return all([is_among(worth, scope.worths[name]) for worth, name in zip(value[4], scope.worths)])


def check_parting(scope, parting):
    if not is_parting_of(scope, parting):
        raise BadParting("this is no parting of the text")


def is_parting(text, value):
    return is_parting_of(check_text(text), value)


def hearers(owners, when, many):
    """The panels at which a rule with this when is heard."""
    word = when[0]
    if word == "tick" or word == "becomes":
        return list(range(many))
    if word == "button":
        return [owners.panels[when]]
    if word == "ran":
        return [owners.panels[("timer", when[1])]]
    if word == "smoke":
        return owners.all_of(owners.smokes if when[1] == "any" else ["smoke:" + when[1]])
    return owners.all_of(owners.doors if when[1] == "any" else [when[1]])


def things_owned(rule):
    """The things that the panel of a rule must own: what its deeds are on, timers and counters in its condition."""
    things = [thing_of(deed) for deed in rule[2] if deed[0] != "say"]
    return things + [thing for thing in condition_things(rule[1]) if thing[0] != "variable"]


def panels_of(owners, rule, many):
    """The panels at which a rule lies: one or none."""
    when, _, deeds = rule
    panels = hearers(owners, when, many)
    if not [deed for deed in deeds if deed[0] != "say"]:
        if when[0] == "tick":
            panels = [0]
        if when[0] == "becomes":
            panels = [owners.panels[("variable", when[1])]]
    things = things_owned(rule)
    return [panel for panel in panels if all([owners.panels[thing] == panel for thing in things])]


def rule_panels(owners, text, parting):
    """As places, of what is known to be right."""
    found = []
    for at, rule in enumerate(text[5]):
        panels = panels_of(owners, rule, parting[1])
        if not panels:
            raise NoPlace(at)
        found.append(panels[0])
    return tuple(found)


def places(text, parting):
    """The panels at which the rules lie."""
    scope = check_text(text)
    check_parting(scope, parting)
    return rule_panels(Owners(scope, parting), text, parting)


def named_variables(rule):
    """The variables in the condition or the becomes of a rule."""
    names = [name for kind, name in condition_things(rule[1]) if kind == "variable"]
    return names + [rule[0][1]] if rule[0][0] == "becomes" else names


def lines_between(owners, text, panels):
    """The lines of a text whose rules lie at these panels."""
    read = {}
    for reader, rule in zip(panels, text[5]):
        for name in named_variables(rule):
            owner = owners.panels[("variable", name)]
            if owner != reader:
                indexes = read.setdefault((owner, reader), {})
                indexes[owners.names.index(name)] = True
    return tuple([(owner, reader, tuple(sorted(read[(owner, reader)]))) for owner, reader in sorted(read)])


def text_at(text, panels, panel):
    """The text with the rules of one panel; with a rule that never fires if there are none."""
    rules = [rule for rule, where in zip(text[5], panels) if where == panel]
    return with_rules(text, rules if rules else [MUTE])


def lines(text, parting):
    """The triples (owner, reader, indexes of variables) of what panels read of others."""
    scope = check_text(text)
    check_parting(scope, parting)
    owners = Owners(scope, parting)
    return lines_between(owners, text, rule_panels(owners, text, parting))


def panel_text(text, parting, panel):
    """The text with the rules that lie at a panel."""
    scope = check_text(text)
    check_parting(scope, parting)
    if not is_between(panel, 0, parting[1] - 1):
        raise BadPanel("this is no panel")
    return text_at(text, rule_panels(Owners(scope, parting), text, parting), panel)
