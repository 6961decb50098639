"""Texts of rules: what is one, its variables, signals and standings."""
from housekept.buildings import check_door, door_names, inner_areas, is_building, is_name, kinds_of, are_names
from housekept.errors import BadName, BadSignal, BadStanding, BadText
from housekept.shapes import are_unlike, is_among, is_between, is_one, is_tuple

SIDES = (0, 1)
BUTTONS = (0, 1, 2, 3, 4, 5)
TELLS = ("yes", "no")
STUCK = (None, "shut", "free")
DEEP = 6
THING_OF = {"let": "variable", "start": "timer", "stop": "timer", "more": "counter", "less": "counter"}


class Scope:
    """What the rules of a text can speak of: it grows as the text is read."""

    def __init__(self, building):
        self.building = building
        self.doors = door_names(building)
        self.kinds = kinds_of(building)
        self.inner = inner_areas(building)
        self.worths = {}
        self.timers = {}
        self.counters = {}
        for door in self.doors:
            self.worths[door] = ("shut", "free")
        for area in self.inner:
            self.worths["smoke:" + area] = ("no", "yes")

    def is_new(self, name):
        """Whether a value is a name that nothing here has."""
        return is_name(name) and name not in self.worths and name not in self.timers and name not in self.counters


def takes_variable(scope, row):
    if not is_tuple(row, 2, 2) or not scope.is_new(row[0]) or not are_names(row[1], 2, 4):
        return False
    scope.worths[row[0]] = row[1]
    return True


def takes_timer(scope, row):
    if not is_tuple(row, 2, 2) or not scope.is_new(row[0]) or not is_between(row[1], 1, 12):
        return False
    scope.timers[row[0]] = row[1]
    return True


def takes_counter(scope, row):
    if not is_tuple(row, 2, 2) or not scope.is_new(row[0]) or not is_between(row[1], 1, 5):
        return False
    scope.counters[row[0]] = row[1]
    return True


TAKERS = {2: takes_variable, 3: takes_timer, 4: takes_counter}


def fault_of_names(scope, part, rows, most):
    """The first wrong place of the variables, timers or counters, which the scope takes in."""
    if not is_tuple(rows, 0, most):
        return (part,)
    takes = TAKERS[part]
    for at in range(len(rows)):
        if not takes(scope, rows[at]):
            return (part, at)
    return None


def scope_of(text):
    """The scope of what is known to be a text."""
    scope = Scope(text[1])
    for part in (2, 3, 4):
        fault_of_names(scope, part, text[part], len(text[part]))
    return scope


def fields_of(scope, word):
    """For the word of a signal the choices of what stands behind it, None for other words."""
    if word == "card":
        return (scope.doors, SIDES, scope.kinds)
    if word == "pass":
        return (scope.doors, SIDES)
    if word == "smoke":
        return (scope.inner, TELLS)
    if word == "button":
        return (BUTTONS,)
    if word == "stuck" or word == "mended":
        return (scope.doors,)
    return () if word == "tick" else None


def fits_fields(scope, value, free):
    """Whether a value is a signal; free are further words that may stand in its fields."""
    if type(value) is not tuple or len(value) == 0:
        return False
    fields = fields_of(scope, value[0])
    if fields is None or len(value) != 1 + len(fields):
        return False
    return all([is_one(part, field) or is_among(part, free) for part, field in zip(value[1:], fields)])


def is_signal_of(scope, value):
    return fits_fields(scope, value, ())


def is_change(scope, value, free):
    """Whether a value is ("becomes", variable, value); free are further words for its value."""
    if not is_tuple(value, 3, 3) or value[0] != "becomes" or not is_among(value[1], scope.worths):
        return False
    return is_among(value[2], scope.worths[value[1]]) or is_among(value[2], free)


def is_ran(scope, value):
    return is_tuple(value, 2, 2) and value[0] == "ran" and is_among(value[1], scope.timers)


def is_told(scope, value):
    """Whether a value is a thing that can be told to a round."""
    return is_signal_of(scope, value) or is_ran(scope, value) or is_change(scope, value, ())


def is_when(scope, value):
    if is_change(scope, value, ("any",)) or is_ran(scope, value):
        return True
    # No button is meant by "any".
    if is_tuple(value, 2, 2) and value[0] == "button":
        return is_signal_of(scope, value)
    return fits_fields(scope, value, ("any",))


def is_plain_condition(scope, word, parts, asked):
    """Whether a condition without another one in it; asked: as a question about a standing."""
    many = len(parts)
    if word == "always":
        return many == 0
    if word == "right":
        return many == 0 and not asked
    if word == "is":
        return many == 2 and is_among(parts[0], scope.worths) and is_among(parts[1], scope.worths[parts[0]])
    if word == "least":
        return many == 2 and is_among(parts[0], scope.counters) and is_between(parts[1], 1, scope.counters[parts[0]])
    if word == "running":
        return many == 1 and is_among(parts[0], scope.timers)
    if word == "stands":
        return asked and many == 2 and is_among(parts[0], scope.doors) and is_among(parts[1], ("shut", "free"))
    return False


def is_condition(scope, value, deep, asked):
    """Whether a condition nested at most so deep."""
    if deep == 0 or type(value) is not tuple or len(value) == 0:
        return False
    word = value[0]
    if word == "not":
        return len(value) == 2 and is_condition(scope, value[1], deep - 1, asked)
    if word == "both" or word == "either":
        return len(value) == 3 and all([is_condition(scope, part, deep - 1, asked) for part in value[1:]])
    return is_plain_condition(scope, word, value[1:], asked)


def is_deed(scope, value):
    if not is_tuple(value, 2, 3):
        return False
    word, name = value[0], value[1]
    if word == "let":
        known = is_among(name, scope.worths) and not name.startswith("smoke:")
        return known and len(value) == 3 and is_among(value[2], scope.worths[name])
    if word == "start":
        return len(value) == 3 and is_among(name, scope.timers) and is_between(value[2], 1, scope.timers[name])
    if len(value) != 2:
        return False
    if word == "stop":
        return is_among(name, scope.timers)
    if word == "more" or word == "less":
        return is_among(name, scope.counters)
    return word == "say" and is_between(name, 0, 9)


def thing_of(deed):
    """The thing that a deed is on, None for a word."""
    return None if deed[0] == "say" else (THING_OF[deed[0]], deed[1])


def are_deeds(scope, value):
    if not is_tuple(value, 0, 4) or not all([is_deed(scope, deed) for deed in value]):
        return False
    return are_unlike([thing_of(deed) or deed for deed in value])


def fault_of_rules(scope, rules):
    if not is_tuple(rules, 1, 30):
        return (5,)
    for at in range(len(rules)):
        rule = rules[at]
        if not is_tuple(rule, 3, 3):
            return (5, at)
        if not is_when(scope, rule[0]):
            return (5, at, 0)
        if not is_condition(scope, rule[1], DEEP, False):
            return (5, at, 1)
        if not are_deeds(scope, rule[2]):
            return (5, at, 2)
    return None


def fault(value):
    """The first wrong place of a value that should be a text, None if it is one."""
    if not is_tuple(value, 6, 6) or value[0] != "text":
        return ()
    if not is_building(value[1]):
        return (1,)
    scope = Scope(value[1])
    for part, most in ((2, 5), (3, 3), (4, 2)):
        wrong = fault_of_names(scope, part, value[part], most)
        if wrong is not None:
            return wrong
    return fault_of_rules(scope, value[5])


def is_text(value):
    return fault(value) is None


def is_entry(value, most):
    """Whether a value is what a standing has for a timer."""
    return value is None or is_between(value, 1, most)


def is_standing_of(scope, value):
    if not is_tuple(value, 4, 4) or not all([type(part) is tuple for part in value]):
        return False
    parts = (scope.worths, scope.timers, scope.counters, scope.doors)
    if not all([len(part) == len(names) for part, names in zip(value, parts)]):
        return False
    if not all([is_among(worth, scope.worths[name]) for worth, name in zip(value[0], scope.worths)]):
        return False
    if not all([is_entry(left, scope.timers[name]) for left, name in zip(value[1], scope.timers)]):
        return False
    if not all([is_between(many, 0, scope.counters[name]) for many, name in zip(value[2], scope.counters)]):
        return False
    return all([is_one(how, STUCK) for how in value[3]])


def check_text(text):
    """The scope of a text; whatever is no text is an error."""
    wrong = fault(text)
    if wrong is not None:
        raise BadText(wrong)
    return scope_of(text)


def check_standing(scope, standing):
    if not is_standing_of(scope, standing):
        raise BadStanding("this is no standing of the text")


def check_signal(scope, signal):
    if not is_signal_of(scope, signal):
        raise BadSignal("this is no signal of the text")


def signals_of(scope):
    """All signals in order."""
    found = [("card", door, side, kind) for door in scope.doors for side in SIDES for kind in scope.kinds]
    found.extend([("pass", door, side) for door in scope.doors for side in SIDES])
    found.extend([("smoke", area, tell) for area in scope.inner for tell in TELLS])
    found.extend([("button", button) for button in BUTTONS])
    found.extend([(word, door) for door in scope.doors for word in ("stuck", "mended")])
    found.append(("tick",))
    return found


def variables(text):
    """The pairs (name, values) of all variables: doors, smokes and own ones."""
    scope = check_text(text)
    return [(name, scope.worths[name]) for name in scope.worths]


def is_signal(text, value):
    return is_signal_of(check_text(text), value)


def signals(text):
    return signals_of(check_text(text))


def begin(text):
    """The standing at the beginning."""
    scope = check_text(text)
    firsts = tuple([scope.worths[name][0] for name in scope.worths])
    return (firsts, (None,) * len(scope.timers), (0,) * len(scope.counters), (None,) * len(scope.doors))


def is_standing(text, value):
    return is_standing_of(check_text(text), value)


def stands(text, standing, door):
    """How a door stands: as it is stuck, otherwise as its variable."""
    scope = check_text(text)
    check_standing(scope, standing)
    check_door(scope.building, door)
    at = scope.doors.index(door)
    return standing[3][at] or standing[0][at]


def value_of(text, standing, name):
    scope = check_text(text)
    check_standing(scope, standing)
    if not is_among(name, scope.worths):
        raise BadName("this is no variable of the text")
    return standing[0][list(scope.worths).index(name)]
