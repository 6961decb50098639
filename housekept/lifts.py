"""Lifts: a cabin that goes from floor to floor by a rule of words."""
from housekept.errors import BadFloors, BadRule, BadSignal, BadStanding, BadStay
from housekept.shapes import are_indexes, is_among, is_between, is_tuple

WORDS = ("go", "open", "rest", "turn")
FIRST = (0, 0, 0, ())
TICK = ("tick",)


def is_rule(value):
    """Whether a value is a tuple of a word for each case."""
    return is_tuple(value, 16, 16) and all([is_among(word, WORDS) for word in value])


def check_floors(floors, most):
    if not is_between(floors, 2, most):
        raise BadFloors("this is no number of floors")


def check_stay(stay, most):
    if not is_between(stay, 1, most):
        raise BadStay("this is no number of ticks to stay")


def check_lift(floors, stay, rule):
    check_floors(floors, 8)
    check_stay(stay, 6)
    if not is_rule(rule):
        raise BadRule("this is no rule of 16 words")


def is_lift_standing(floors, stay, value):
    if not is_tuple(value, 4, 4) or not is_between(value[0], 0, floors - 1) or not is_between(value[1], 0, 1):
        return False
    return is_between(value[2], 0, stay) and type(value[3]) is tuple and are_indexes(value[3], floors)


def is_lift_signal(floors, value):
    if is_tuple(value, 2, 2) and value[0] == "call":
        return is_between(value[1], 0, floors - 1)
    return is_tuple(value, 1, 1) and value[0] == "tick"


def word_at(rule, way, floor, lit):
    """The word of a rule for a way, the cabin being at a floor."""
    above = any([one > floor for one in lit])
    below = any([one < floor for one in lit])
    ahead, behind = (above, below) if way == 1 else (below, above)
    return rule[8 * way + (4 if floor in lit else 0) + (2 if ahead else 0) + (1 if behind else 0)]


def last_floor(floors, way):
    return floors - 1 if way == 1 else 0


def done(floors, stay, rule, standing):
    """The standing behind the rule's word, the doors being shut."""
    floor, way, _, lit = standing
    word = word_at(rule, way, floor, lit)
    if word == "turn":
        # Turned twice it stands as ahead, and rests.
        word = word_at(rule, 1 - way, floor, lit)
        way = way if word == "turn" else 1 - way
    if word == "open":
        return (floor, way, stay, tuple([one for one in lit if one != floor]))
    if word == "go" and floor != last_floor(floors, way):
        return (floor + (1 if way == 1 else -1), way, 0, lit)
    return (floor, way, 0, lit)


def stepped(floors, stay, rule, standing, signal):
    """As lift_step, of what is known to be right."""
    floor, way, left, lit = standing
    if signal[0] == "tick":
        if left > 1:
            return (floor, way, left - 1, lit)
        return done(floors, stay, rule, (floor, way, 0, lit))
    if signal[1] in lit or (left > 0 and signal[1] == floor):
        return standing
    return (floor, way, left, tuple(sorted(lit + (signal[1],))))


def lift_step(floors, stay, rule, standing, signal):
    """The standing of a lift behind a signal."""
    check_lift(floors, stay, rule)
    if not is_lift_standing(floors, stay, standing):
        raise BadStanding("this is no standing of the lift")
    if not is_lift_signal(floors, signal):
        raise BadSignal("this is no signal of the lift")
    return stepped(floors, stay, rule, standing, signal)


def signals_of(floors):
    return [("call", floor) for floor in range(floors)] + [TICK]


def walked(floors, stay, rule):
    """The standings that come, as they are met, and for each the numbers of the next ones."""
    met = [FIRST]
    numbers = {FIRST: 0}
    nexts = []
    signals = signals_of(floors)
    while len(nexts) < len(met):
        here = met[len(nexts)]
        row = []
        for signal in signals:
            behind = stepped(floors, stay, rule, here, signal)
            if behind not in numbers:
                numbers[behind] = len(met)
                met.append(behind)
            row.append(numbers[behind])
        nexts.append(row)
    return met, nexts


def lift_standings(floors, stay, rule):
    """The standings that come, as they are met from the first."""
    check_lift(floors, stay, rule)
    return walked(floors, stay, rule)[0]


def lift_web(floors, stay, rule):
    """The web of a lift's standings, with moves that need nobody."""
    check_lift(floors, stay, rule)
    signals = signals_of(floors)
    _, nexts = walked(floors, stay, rule)
    moves = [tuple([(signal, None, None, behind) for signal, behind in zip(signals, row)]) for row in nexts]
    return ("web", (0,), tuple(moves))


def word_for(here, ahead, behind):
    """The word of a lift that opens where it is called, and turns behind the last call on its way."""
    if here:
        return "open"
    if ahead:
        return "go"
    return "turn" if behind else "rest"


def word_back(here, ahead, behind):
    """The word of a lift on its way back: it goes to the last call, and opens none."""
    if ahead:
        return "go"
    return "turn" if here or behind else "rest"


def rule_of(down, up):
    """The rule of two functions of here, ahead, behind."""
    cases = [(here == 1, ahead == 1, behind == 1) for here in (0, 1) for ahead in (0, 1) for behind in (0, 1)]
    words = [down(here, ahead, behind) for here, ahead, behind in cases]
    return tuple(words + [up(here, ahead, behind) for here, ahead, behind in cases])


def collective():
    """The rule that opens at calls on both ways."""
    return rule_of(word_for, word_for)


def one_way():
    """The rule that opens at calls on the way down alone."""
    return rule_of(word_for, word_back)
