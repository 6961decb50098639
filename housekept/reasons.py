"""Why a thing has changed, and what a signal can read and write at all."""
from housekept.errors import BadThing
from housekept.meaning import account_of
from housekept.rounds import Program, behind_deeds, fits
from housekept.rules import check_signal, check_standing, check_text, is_told, thing_of
from housekept.shapes import is_among, is_between, is_tuple


def check_thing(scope, thing):
    names = {"variable": scope.worths, "timer": scope.timers, "counter": scope.counters}
    if not is_tuple(thing, 2, 2) or not is_among(thing[0], names) or not is_among(thing[1], names[thing[0]]):
        raise BadThing("this is no variable, timer or counter of the text")


def telling_rounds(program, flat, signal, thing):
    """The rounds up to the last one that changes a thing, [] if none does or the signal is endless."""
    account = account_of(program, flat, signal)[0]
    begun = program.alone(flat, signal)
    if begun is None or account[4]:
        return []
    slot = program.slots.slots[thing]
    now = begun[0]
    last = 0
    for at, (_, fired) in enumerate(account[1]):
        ahead = now
        now = behind_deeds(ahead, program.effect(fired).deeds)
        if now[slot] != ahead[slot]:
            last = at + 1
    return account[1][:last]


def done_deed(program, fired, thing):
    """The deed on a thing that is done where these rules fire: that of the least one."""
    for rule in fired:
        for deed in program.rules[rule][2]:
            if thing_of(deed) == thing:
                return deed
    return None


def cause(program, told, rule):
    """The told thing by which a rule fires: no when fits two things of one round."""
    for thing in told:
        if fits(program.rules[rule][0], thing):
            return thing
    return None


def lets(program, rule, told):
    """Whether a rule lets a variable have the value that it is then told to have become."""
    return ("let", told[1], told[2]) in program.rules[rule][2]


def leading_lots(program, rounds, thing):
    """For each round the rules from which a chain leads on to the deed on the thing in the last one."""
    deed = done_deed(program, rounds[-1][1], thing)
    lots = [[rule for rule in rounds[-1][1] if deed in program.rules[rule][2]]]
    for at in range(len(rounds) - 1, 0, -1):
        causes = [cause(program, rounds[at][0], rule) for rule in lots[-1]]
        lots.append([rule for rule in rounds[at - 1][1] if any([lets(program, rule, told) for told in causes])])
    return lots[::-1]


def least_chain(program, rounds, thing):
    """The reason that is least by its rules, as from each rule of the lots a chain leads on."""
    lots = leading_lots(program, rounds, thing)
    chain = []
    for (told, _), lot in zip(rounds, lots):
        going = [(cause(program, told, rule), rule) for rule in lot]
        if chain:
            ahead = chain[-1][1]
            going = [(met, rule) for met, rule in going if lets(program, ahead, met)]
        chain.append(going[0])
    return tuple(chain)


def checked_rounds(text, standing, signal, thing):
    """The text made ready to run, and the rounds up to the last one that changes the thing."""
    scope = check_text(text)
    check_standing(scope, standing)
    check_signal(scope, signal)
    check_thing(scope, thing)
    program = Program(text)
    return program, telling_rounds(program, program.slots.flat(standing), signal, thing)


def reason(text, standing, signal, thing):
    """The least reason for a thing at a signal."""
    program, rounds = checked_rounds(text, standing, signal, thing)
    return least_chain(program, rounds, thing) if rounds else ()


def is_link(program, row, pair):
    """Whether a value is a pair of a thing told to a round and a rule that fires by it there."""
    told, fired = row
    if not is_tuple(pair, 2, 2) or not is_between(pair[1], 0, len(program.rules) - 1):
        return False
    if not is_told(program.slots.scope, pair[0]) or pair[0] not in told or pair[1] not in fired:
        return False
    return fits(program.rules[pair[1]][0], pair[0])


def is_reason(text, standing, signal, thing, value):
    """Whether a value is a reason, or () where there is none."""
    program, rounds = checked_rounds(text, standing, signal, thing)
    if not is_tuple(value, len(rounds), len(rounds)):
        return False
    if not all([is_link(program, row, pair) for row, pair in zip(rounds, value)]):
        return False
    if not all([lets(program, value[at][1], value[at + 1][0]) for at in range(len(value) - 1)]):
        return False
    return not rounds or done_deed(program, rounds[-1][1], thing) in program.rules[value[-1][1]][2]


def first_changes(program, signal):
    """The pairs (variable, value) that a signal can give by itself."""
    if signal[0] == "smoke":
        return [("smoke:" + signal[1], signal[2])]
    if signal[0] == "pass" and program.gates[signal[1]]:
        return [(signal[1], "shut")]
    return []


def is_reached(when, signal, changes):
    if when[0] == "becomes":
        return any([when[1] == name and when[2] in ("any", worth) for name, worth in changes])
    return fits(when, signal) or (when[0] == "ran" and signal[0] == "tick")


def reached_rules(program, signal):
    """The least set of rules that a signal can let fire, ascending."""
    changes = first_changes(program, signal)
    met = {}
    going = True
    while going:
        fresh = [at for at in range(len(program.rules))
                 if at not in met and is_reached(program.rules[at][0], signal, changes)]
        for at in fresh:
            met[at] = True
            changes = changes + [(deed[1], deed[2]) for deed in program.rules[at][2] if deed[0] == "let"]
        going = len(fresh) > 0
    return tuple(sorted(met))


def condition_things(condition):
    """The things in a condition."""
    word = condition[0]
    if word in ("not", "both", "either"):
        return [thing for part in condition[1:] for thing in condition_things(part)]
    kinds = {"is": "variable", "stands": "variable", "least": "counter", "running": "timer"}
    return [(kinds[word], condition[1])] if word in kinds else []


def sorted_things(things):
    return sorted(set(things))


def things_written(program, signal):
    rules = [program.rules[at] for at in reached_rules(program, signal)]
    things = [thing_of(deed) for rule in rules for deed in rule[2] if deed[0] != "say"]
    things.extend([("variable", name) for name, _ in first_changes(program, signal)])
    if signal[0] == "tick":
        things.extend([("timer", name) for name in program.slots.timers])
    if signal[0] in ("stuck", "mended"):
        things.append(("stuck", signal[1]))
    return sorted_things(things)


def things_read(program, signal):
    rules = [program.rules[at] for at in reached_rules(program, signal)]
    things = [thing for rule in rules for thing in condition_things(rule[1])]
    things.extend([("variable", rule[0][1]) for rule in rules if rule[0][0] == "becomes"])
    if signal[0] in ("pass", "stuck", "mended"):
        things.extend([("variable", signal[1]), ("stuck", signal[1])])
    return sorted_things(things)


def reach(text, signal):
    """The rules that a signal can let fire."""
    check_signal(check_text(text), signal)
    return reached_rules(Program(text), signal)


def writes(text, signal):
    """The things that a signal can change."""
    check_signal(check_text(text), signal)
    return things_written(Program(text), signal)


def reads(text, signal):
    """The things on which it hangs what a signal does."""
    check_signal(check_text(text), signal)
    return things_read(Program(text), signal)


def apart(text, one, other):
    """Whether neither of two signals writes what the other one reads or writes."""
    scope = check_text(text)
    check_signal(scope, one)
    check_signal(scope, other)
    program = Program(text)
    first, second = things_written(program, one), things_written(program, other)
    met = second + things_read(program, other)
    back = first + things_read(program, one)
    return not any([thing in met for thing in first]) and not any([thing in back for thing in second])
